/- Contracts of Compare, of the program and of the reference. -/
import Derived.Test.YtnckdopphimgoaaZz01
import Derived.Test.YtnckdopphimgoaaZz03
import Derived.Test.YtnckdopphimgoaaZz04
import Derived.Test.YtnckdopphimgoaaZz17
namespace Go.Proofs.Ytnckdopphimgoaa
open Go.ChangeShapes Go.WideShapes Go.ChangeAt Go.RowKit

abbrev sv (l : List UInt8) : Value := .string ⟨l.toArray⟩
abbrev vv (v : V) : Value := .agg #[.int .i64 v.k, .int .i64 v.n, sv v.s]

set_option maxHeartbeats 1000000 in
theorem cmp64 (x y : Int) (w : World) : Calls Try.prog 76 #[.int .i64 x, .int .i64 y] w fun e w' => e = .returned (.int .i64 (Lib.compareInt x y)) ∧ w = w' := by
  rcases ci_vals x y with ⟨h, h'⟩ | ⟨h, h'⟩ | ⟨h, h'⟩
  all_goals
    have H := Lib.hid h; clear h
    try subst h'
    go_enter Try.func76, Try.ntmps76
    go_wp2
    go_ret
    exact ⟨ret_int H.out.symm, rfl⟩
set_option maxHeartbeats 1000000 in
theorem cmp_val (a b : V) (w : World) : Calls Try.prog 64 #[vv a, vv b] w fun e w' => e = .returned (.int .i64 (cmpV a b)) ∧ Grown w w' := by
  obtain ⟨k, n, s⟩ := a
  obtain ⟨k2, n2, s2⟩ := b
  by_cases hk : k = k2
  · by_cases hn : n = n2
    · subst hk hn
      have H := Lib.hid (show cmpV ⟨k, n, s⟩ ⟨k, n, s2⟩ = Lib.compareBytes s s2 by unfold cmpV; rw [if_pos rfl, if_pos rfl])
      go_enter Try.func64, Try.ntmps64
      go_wp2_with fail
      refine (Try.strings_Compare _ _ _).mono ?_; rintro e w1 ⟨rfl, rfl⟩
      go_wp2_with fail
      go_ret
      exact ⟨ret_int H.out.symm, ((Grown.refl _).alloc _ _).alloc _ _⟩
    · subst hk
      have H := Lib.hid (show cmpV ⟨k, n, s⟩ ⟨k, n2, s2⟩ = Lib.compareInt n n2 by unfold cmpV; rw [if_pos rfl, if_neg hn])
      go_enter Try.func64, Try.ntmps64
      go_wp2_with fail
      refine (cmp64 _ _ _).mono ?_; rintro e w1 ⟨rfl, rfl⟩
      go_wp2_with fail
      go_ret
      exact ⟨ret_int H.out.symm, ((Grown.refl _).alloc _ _).alloc _ _⟩
  · have H := Lib.hid (show cmpV ⟨k, n, s⟩ ⟨k2, n2, s2⟩ = Lib.compareInt k k2 by unfold cmpV; rw [if_neg hk])
    go_enter Try.func64, Try.ntmps64
    go_wp2_with fail
    refine (Try.cmp_Compare_int _ _ _).mono ?_; rintro e w1 ⟨rfl, rfl⟩
    go_wp2_with fail
    go_ret
    exact ⟨ret_int H.out.symm, ((Grown.refl _).alloc _ _).alloc _ _⟩
set_option maxHeartbeats 1000000 in
theorem cmp_ref (a b : V) (w : World) : Calls Try.prog 12 #[vv a, vv b] w fun e w' => e = .returned (.int .i64 (cmpV a b)) ∧ Grown w w' := by
  obtain ⟨k, n, s⟩ := a
  obtain ⟨k2, n2, s2⟩ := b
  have hL := cv_less ⟨k, n, s⟩ ⟨k2, n2, s2⟩
  have hZ := cv_zero ⟨k, n, s⟩ ⟨k2, n2, s2⟩
  have hV := cv_vals ⟨k, n, s⟩ ⟨k2, n2, s2⟩
  have hB := cb_less s s2
  simp only [V.mk.injEq] at hL hZ
  rcases Int.lt_trichotomy k k2 with hk | hk | hk
  · have HC := Lib.hid (hL.2 (Or.inl hk))
    clear hL hZ hV hB
    go_enter Try.func12, Try.ntmps12
    go_wp2
    go_ret
    exact ⟨ret_int (show (-1 : Int) = _ from HC.out.symm), ((Grown.refl _).alloc _ _).alloc _ _⟩
  · subst hk
    rcases Int.lt_trichotomy n n2 with hn | hn | hn
    · have HC := Lib.hid (hL.2 (Or.inr ⟨rfl, Or.inl hn⟩))
      clear hL hZ hV hB
      go_enter Try.func12, Try.ntmps12
      go_wp2
      go_ret
      exact ⟨ret_int (show (-1 : Int) = _ from HC.out.symm), ((Grown.refl _).alloc _ _).alloc _ _⟩
    · subst hn
      rcases cb_vals s s2 with hs | hs | hs
      · have HC := Lib.hid (hL.2 (Or.inr ⟨rfl, Or.inr ⟨rfl, hs⟩⟩))
        have hb : Op.bytesLess s s2 = true := by rw [hB]; simpa using hs
        clear hL hZ hV hB hs
        go_enter Try.func12, Try.ntmps12
        go_wp2
        go_ret
        exact ⟨ret_int (show (-1 : Int) = _ from HC.out.symm), ((Grown.refl _).alloc _ _).alloc _ _⟩
      · have e := (cb_zero s s2).1 hs
        subst e
        have HC := Lib.hid (hZ.2 ⟨rfl, rfl, rfl⟩)
        have hb : Op.bytesLess s s = false := by rw [hB, hs]; rfl
        clear hL hZ hV hB hs
        go_enter Try.func12, Try.ntmps12
        go_wp2
        go_ret
        exact ⟨ret_int (show (0 : Int) = _ from HC.out.symm), ((Grown.refl _).alloc _ _).alloc _ _⟩
      · have hne : s ≠ s2 := fun e => by have := (cb_zero s s2).2 e; omega
        have HC := Lib.hid (show cmpV ⟨k, n, s⟩ ⟨k, n, s2⟩ = 1 by
          rcases hV with h | h | h
          · have := hL.1 h; omega
          · exact absurd (hZ.1 h).2.2 hne
          · exact h)
        have hb : Op.bytesLess s s2 = false := by rw [hB, hs]; rfl
        have hb2 : (s == s2) = false := by simpa using hne
        clear hL hZ hV hB hs
        go_enter Try.func12, Try.ntmps12
        go_wp2
        go_ret
        exact ⟨ret_int (show (1 : Int) = _ from HC.out.symm), ((Grown.refl _).alloc _ _).alloc _ _⟩
    · have HC := Lib.hid (show cmpV ⟨k, n, s⟩ ⟨k, n2, s2⟩ = 1 by
        rcases hV with h | h | h
        · have := hL.1 h; omega
        · have := (hZ.1 h).2.1; omega
        · exact h)
      clear hL hZ hV hB
      go_enter Try.func12, Try.ntmps12
      go_wp2
      go_ret
      exact ⟨ret_int (show (1 : Int) = _ from HC.out.symm), ((Grown.refl _).alloc _ _).alloc _ _⟩
  · have HC := Lib.hid (show cmpV ⟨k, n, s⟩ ⟨k2, n2, s2⟩ = 1 by
      rcases hV with h | h | h
      · have := hL.1 h; omega
      · have := (hZ.1 h).1; omega
      · exact h)
    clear hL hZ hV hB
    go_enter Try.func12, Try.ntmps12
    go_wp2
    go_ret
    exact ⟨ret_int (show (1 : Int) = _ from HC.out.symm), ((Grown.refl _).alloc _ _).alloc _ _⟩
end Go.Proofs.Ytnckdopphimgoaa
/- How values lie in cells. -/
namespace Go.Proofs.Ytnckdopphimgoaa
open Go.ChangeShapes Go.WideShapes Go.ChangeAt Go.RowKit

instance : Enc V := ⟨3, by decide, fun v => [.int .i64 v.k, .int .i64 v.n, sv v.s], fun _ => rfl, fun a u h => by simp at h; rcases h with rfl | rfl | rfl <;> rfl⟩
def tV : RowT V := ⟨42, 26, nul, .agg #[.int .i64 0, .int .i64 0, sv []], 32, Try.underlying26, by kernel_rfl, by rfl, by decide⟩
theorem rd_V {w : World} {ad : Option Addr} {n cap : Nat} {l : List V} (h : RdG w (.slice ad n cap) l) (i : Nat) (hi : i < l.length) : ∃ g o, ad = some ⟨g, o, none⟩ ∧ w.cell? ⟨g, o + i * 3, none⟩ = some (.int .i64 l[i].k) ∧ w.cell? ⟨g, o + i * 3 + 1, none⟩ = some (.int .i64 l[i].n) ∧ w.cell? ⟨g, o + i * 3 + 2, none⟩ = some (sv l[i].s) := by
  obtain ⟨g, o, e, c⟩ := h.at i hi
  exact ⟨g, o, e, c 0 _ rfl, c 1 _ rfl, c 2 _ rfl⟩
end Go.Proofs.Ytnckdopphimgoaa
