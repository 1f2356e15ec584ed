/- The law ExprColumns. -/
import Derived.Test.YtdamlnfjhpmpmaaLx0
import Derived.Test.YtdamlnfjhpmpmaaCr7
import Derived.Test.YtdamlnfjhpmpmaaSam
namespace Go.Proofs.Ytdamlnfjhpmpmaa
open Go.ChangeShapes Go.WideShapes Go.ChangeAt Go.RowKit

set_option maxHeartbeats 4000000 in
set_option maxRecDepth 100000 in
theorem col_rno (l : List X) (root : Int) (vl : Value) (w : World) (hl : RdG w vl l) (hb : isIx root l.length = false) :
    Calls Try.prog 19 #[vl, .int .i64 root] w (ColP l root w) := by
  obtain ⟨al, cl, rfl, ll1, ll2⟩ := hl.shape
  have HB := Lib.hid hb
  rcases (isIx_no _ _).1 hb with h | h
  · have h1 : decide (root < 0) = true := by simpa using h
    clear hb hl ll1 ll2
    go_enter Try.func19, Try.ntmps19
    go_wp2_with fail
    go_ret
    exact ⟨_, [], rfl, rdG_nil _, Ext.refl _, List.Pairwise.nil, fun c => ⟨fun h => (by cases h), fun h => (by have h1 := h.1; rw [HB.out] at h1; cases h1)⟩⟩
  · by_cases h0 : root < 0
    · have h1 : decide (root < 0) = true := by simpa using h0
      clear hb hl ll1 ll2 h
      go_enter Try.func19, Try.ntmps19
      go_wp2_with fail
      go_ret
      exact ⟨_, [], rfl, rdG_nil _, Ext.refl _, List.Pairwise.nil, fun c => ⟨fun h => (by cases h), fun h => (by have h1 := h.1; rw [HB.out] at h1; cases h1)⟩⟩
    · have h1 : decide (root < 0) = false := by simpa using h0
      have h2 : decide ((l.length : Int) ≤ root) = true := by simpa using h
      clear hb hl ll1 ll2
      go_enter Try.func19, Try.ntmps19
      go_wp2_with fail
      go_ret
      exact ⟨_, [], rfl, rdG_nil _, Ext.refl _, List.Pairwise.nil, fun c => ⟨fun h => (by cases h), fun h => (by have h1 := h.1; rw [HB.out] at h1; cases h1)⟩⟩
theorem col_ref (l : List X) (root : Int) (vl : Value) (w : World) (hl : RdG w vl l) (hs : l.length ≤ 1000) :
    Calls Try.prog 19 #[vl, .int .i64 root] w (ColP l root w) := by
  cases hb : isIx root l.length with
  | false => exact col_rno l root vl w hl hb
  | true =>
    have h := (isIx_iff _ _).1 hb
    obtain ⟨r, rfl⟩ := nat_of h.1
    exact col_ryes l r vl w hl (by omega) hs
set_option maxHeartbeats 4000000 in
set_option maxRecDepth 100000 in
theorem law_ExprColumns (l : List X) (root : Int) (vl : Value) (w : World) (rl : RdG w vl l) :
    Calls Try.prog 5 #[vl, .int .i64 root] w fun e w' => e = .returned (.bool true) ∧ Ext w w' := by
  have hF := few_law l vl 0 w rl
  have RL := Lib.hid rl
  obtain ⟨al, cl, rfl, _, _⟩ := rl.shape
  clear rl
  cases h : fewB l.length 0 with
  | false =>
    rw [h] at hF
    have HF := Lib.hid hF
    clear hF h
    go_enter Try.func5, Try.ntmps5
    go_wp2_with fail
    refine HF.out.mono ?_; rintro e w1 ⟨rfl, rfl⟩
    go_wp2_with fail
    refine (awake_law _).mono ?_; rintro e w1 ⟨rfl, hE⟩
    go_wp2_with fail
    go_ret
    exact ⟨rfl, hE⟩
  | true =>
    rw [h] at hF
    have HF := Lib.hid hF
    have hs : l.length ≤ 1000 := by simp [fewB] at h; omega
    clear hF h
    go_enter Try.func5, Try.ntmps5
    go_wp2_with fail
    refine HF.out.mono ?_; rintro e w1 ⟨rfl, rfl⟩
    go_wp2_with fail
    refine (awake_law _).mono ?_; rintro e w1 ⟨rfl, hE1⟩
    have E1 := Lib.hid hE1
    clear hE1
    go_wp2_with fail
    refine (col_prg l root _ _ (RL.out.ext E1.out) hs).mono ?_; rintro e w2 ⟨v2, c2, rfl, hR2, hE2, ha2, hm2⟩
    have E2 := Lib.hid (E1.out.trans hE2)
    have R2 := Lib.hid hR2
    have A2 := Lib.hid ha2
    have M2 := Lib.hid hm2
    clear hE2 hR2 ha2 hm2
    go_wp2_with fail
    refine (col_ref l root _ _ (RL.out.ext E2.out) hs).mono ?_; rintro e w3 ⟨v3, c3, rfl, hR3, hE3, ha3, hm3⟩
    have heq : c2 = c3 := asc_unique _ _ A2.out ha3 (fun c => (M2.out c).trans (hm3 c).symm)
    subst heq
    have E3 := Lib.hid (E2.out.trans hE3)
    have R3 := Lib.hid hR3
    have R23 := Lib.hid (R2.out.ext hE3)
    clear hE3 hR3 ha3 hm3
    go_wp2_with fail
    refine (same_ints c2 _ _ _ R23.out R3.out).mono ?_; rintro e w4 ⟨rfl, hE4⟩
    go_wp2_with fail
    go_ret
    exact ⟨by simp, E3.out.trans hE4⟩
end Go.Proofs.Ytdamlnfjhpmpmaa
