/- awake of the laws of values. -/
import Derived.Test.YtejgmiljjpgbpaaDoorRn2
import Derived.Test.YtejgmiljjpgbpaaDoorVw4
import Derived.Test.YtejgmiljjpgbpaaDoorKy
import Derived.Test.YtejgmiljjpgbpaaDoorCr
namespace Go.Proofs.YtejgmiljjpgbpaaDoor
open Go.ChangeShapes Go.WideShapes Go.ChangeAt Go.RowKit

theorem Box.ext {w w' : World} {b : Nat} {v : V} (h : Box w b v) (e : Ext w w') : Box w' b v := e.block h
theorem prs_at (l : List UInt8) (v : V) (n : Int) (w : World) (hG : GE w) (hl : l.length ≤ 4000) (h : prsV l = (v, n)) : Calls Tryd.prog 20 #[sv l] w fun e w' => e = .returned (.tuple #[vv v, .int .i64 n]) ∧ Ext w w' := by
  have := prs_val l w hG hl; rwa [h] at this
theorem fmt_at (v : V) (l : List UInt8) (w : World) (hG : GE w) (h0 : -9223372036854775808 ≤ v.n) (h1 : v.n ≤ 9223372036854775807) (h : fmtV v = l) : Calls Tryd.prog 16 #[vv v] w fun e w' => e = .returned (sv l) ∧ Ext w w' := by
  have := fmt_val v w hG h0 h1; rwa [h] at this
theorem cmp_at (a b : V) (n : Int) (w : World) (h : cmpV a b = n) : Calls Tryd.prog 14 #[vv a, vv b] w fun e w' => e = .returned (.int .i64 n) ∧ Ext w w' := by
  have := cmp_val a b w; rw [h] at this; exact this.mono fun _ _ ⟨e, g⟩ => ⟨e, ext_of_grown g⟩
theorem rdV_lit1 (X : World) (v : V) (n : Nat) (hn : X.heap.size = n) : RdV (X.alloc (.cells #[.int .i64 v.k, .int .i64 v.n, sv v.s] 23)) (.slice (some ⟨n, 0, none⟩) 1 1) [v] := by
  subst hn
  refine ⟨_, 1, rfl, Nat.le_refl _, (by unfold maxLen; omega), (fun h => by cases h), fun i hi => ⟨_, 0, rfl, ?_⟩⟩
  have : i = 0 := by simpa using hi
  subst this
  exact ⟨(Box.new X v).c0, (Box.new X v).c1, (Box.new X v).c2⟩
theorem key_zero : keyL [⟨0, 0, []⟩] = [48, 44, 48, 44, 48, 58] := by
  have : Lib.itoa 0 = [48] := by unfold Lib.itoa; rw [if_neg (by omega)]; exact dec_zero
  simp [keyL, this]
theorem okL_zero : OkL [⟨0, 0, []⟩] := by
  intro i h
  have : i = 0 := by simpa using h
  subst this
  simp
theorem key_nil (w : World) (hG : GE w) : Calls Tryd.prog 22 #[.slice none 0 0] w fun e w' => e = .returned (sv []) ∧ Ext w w' :=
  key_val [] _ w hG (rdV_nil w) (fun i h => by simp at h) (by simp [keyL])
theorem key_lit (X : World) (hG : GE X) (n : Nat) (hn : X.heap.size = n) : Calls Tryd.prog 22 #[.slice (some ⟨n, 0, none⟩) 1 1] (X.alloc (.cells #[.int .i64 0, .int .i64 0, .string ⟨#[]⟩] 23)) fun e w' => e = .returned (sv [48, 44, 48, 44, 48, 58]) ∧ Ext (X.alloc (.cells #[.int .i64 0, .int .i64 0, .string ⟨#[]⟩] 23)) w' := by
  have := key_val [⟨0, 0, []⟩] _ _ (hG.ext ((Ext.refl _).alloc _ _)) (rdV_lit1 X ⟨0, 0, []⟩ n hn) okL_zero (by rw [key_zero]; simp)
  rwa [key_zero] at this
set_option maxHeartbeats 4000000 in
set_option maxRecDepth 100000 in
theorem awake_law (w : World) (hG : GE w) : Calls Tryd.prog 11 #[] w fun e w' => e = .returned (.bool true) ∧ Ext w w' := by
  have HG := Lib.hid hG
  clear hG
  go_enter Tryd.func11, Tryd.ntmps11
  go_wp2_with fail
  refine (prs_at [39, 105, 116, 39, 39, 115, 39] ⟨2, 0, [105, 116, 39, 115]⟩ 0 w HG.out (by decide) (by decide)).mono ?_; rintro e x1 ⟨rfl, hE1⟩
  have hB1 := Box.new x1 ⟨2, 0, [105, 116, 39, 115]⟩
  have hF1 : Ext w (x1.alloc (.cells #[.int .i64 2, .int .i64 0, sv [105, 116, 39, 115]] 23)) := hE1.alloc _ _
  go_wp2_with fail
  refine (prs_at [48, 48, 55] ⟨0, 0, []⟩ 10 _ (HG.out.ext hF1) (by decide) (by decide)).mono ?_; rintro e x2 ⟨rfl, hE2⟩
  have hF2 := (hF1.trans hE2).alloc #[.int .i64 0, .int .i64 0, .string ⟨#[]⟩] 23
  have hB2 := (hB1.ext hE2).alloc (.cells #[.int .i64 0, .int .i64 0, .string ⟨#[]⟩] 23)
  go_wp2_with fail
  refine (prs_at [39, 97, 39, 98, 39] ⟨0, 0, []⟩ 5 _ (HG.out.ext hF2) (by decide) (by decide)).mono ?_; rintro e x3 ⟨rfl, hE3⟩
  have hF3 := (hF2.trans hE3).alloc #[.int .i64 0, .int .i64 0, .string ⟨#[]⟩] 23
  have hB3 := (hB2.ext hE3).alloc (.cells #[.int .i64 0, .int .i64 0, .string ⟨#[]⟩] 23)
  have a0 := (hB2.ext hE3).c0
  have a1 := (hB2.ext hE3).c1
  have a2 := (hB2.ext hE3).c2
  have hz3 : x1.heap.size < x3.heap.size := (hB2.ext hE3).lt
  go_wp2_with fail
  refine (fmt_at ⟨2, 0, [105, 116, 39, 115]⟩ [39, 105, 116, 39, 39, 115, 39] _ (HG.out.ext hF3) (by decide) (by decide) (by decide)).mono ?_; rintro e x4 ⟨rfl, hE4⟩
  have hB4 := hB3.ext hE4
  have hF4 := hF3.trans hE4
  clear a0 a1 a2
  have a0 := hB4.c0
  have a1 := hB4.c1
  have a2 := hB4.c2
  go_wp2_with fail
  refine (cmp_at ⟨0, 0, []⟩ ⟨1, -5, []⟩ (-1) _ (by decide)).mono ?_; rintro e x5 ⟨rfl, hE5⟩
  have hB5 := hB4.ext hE5
  have hF5 := hF4.trans hE5
  clear a0 a1 a2
  have a0 := hB5.c0
  have a1 := hB5.c1
  have a2 := hB5.c2
  go_wp2_with fail
  refine (vlv_yes ⟨2, 0, [105, 116, 39, 115]⟩ _ (by decide)).mono ?_; rintro e x6 ⟨rfl, hg6⟩
  have hF6 := hF5.trans (ext_of_grown hg6)
  clear a0 a1 a2
  go_wp2_with fail
  refine (vlv_no ⟨9, 0, []⟩ _ (by decide)).mono ?_; rintro e x7 ⟨rfl, hg7⟩
  have hF7 := hF6.trans (ext_of_grown hg7)
  go_wp2_with fail
  refine (key_nil x7 (HG.out.ext hF7)).mono ?_; rintro e x8 ⟨rfl, hE8⟩
  have hF8 := hF7.trans hE8
  go_wp2_with fail
  refine (key_lit x8 (HG.out.ext hF8) _ rfl).mono ?_; rintro e x9 ⟨rfl, hE9⟩
  go_wp2_with fail
  go_ret
  exact ⟨rfl, (hF8.alloc _ _).trans hE9⟩
end Go.Proofs.YtejgmiljjpgbpaaDoor
