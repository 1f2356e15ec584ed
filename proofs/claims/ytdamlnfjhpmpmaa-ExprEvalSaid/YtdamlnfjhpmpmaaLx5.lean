/- The law ExprEval. -/
import Derived.Test.YtdamlnfjhpmpmaaLx1
import Derived.Test.YtdamlnfjhpmpmaaRv6
namespace Go.Proofs.Ytdamlnfjhpmpmaa
open Go.ChangeShapes Go.WideShapes Go.ChangeAt Go.RowKit

set_option maxHeartbeats 4000000 in
set_option maxRecDepth 100000 in
theorem law_ExprEval (l : List X) (root : Int) (row : List V) (vl vr : Value) (w : World) (rl : RdG w vl l) (rr : RdG w vr row) (ox : OkX l) (okr : OkR row) :
    Calls Try.prog 4 #[vl, .int .i64 root, vr] w fun e w' => e = .returned (.bool true) ∧ Ext w w' := by
  have hF := few_law l vl row.length w rl
  cases h : fewB l.length row.length with
  | false =>
    rw [h] at hF
    obtain ⟨al, cl, rfl, _, _⟩ := rl.shape
    obtain ⟨ar, cr, rfl, _, _⟩ := rr.shape
    have HF := Lib.hid hF
    clear hF h rl rr
    go_enter Try.func4, Try.ntmps4
    go_wp2_with fail
    refine HF.out.mono ?_; rintro e w1 ⟨rfl, rfl⟩
    go_wp2_with fail
    refine (awake_law _).mono ?_; rintro e w1 ⟨rfl, hE⟩
    go_wp2_with fail
    go_ret
    exact ⟨rfl, hE⟩
  | true =>
    obtain ⟨hl1, hr1⟩ := few_yes h
    have hP := fun w' (e : Ext w w') => eval_prg l root row vl vr w' (rl.ext e) (rr.ext e) (by omega) ox okr
    have hR := fun w' (e : Ext w w') => eval_ref l root row vl vr w' (rl.ext e) (rr.ext e) (by omega) ox okr
    generalize evlV l root row = ev at *
    obtain ⟨p, q, t⟩ := ev
    obtain ⟨al, cl, rfl, _, _⟩ := rl.shape
    obtain ⟨ar, cr, rfl, _, _⟩ := rr.shape
    rw [h] at hF
    have HF := Lib.hid hF
    have HP := Lib.hid hP
    have HR := Lib.hid hR
    clear hF h hP hR rl rr ox okr
    go_enter Try.func4, Try.ntmps4
    go_wp2_with fail
    refine HF.out.mono ?_; rintro e w1 ⟨rfl, rfl⟩
    go_wp2_with fail
    refine (awake_law _).mono ?_; rintro e w1 ⟨rfl, hE1⟩
    have E1 := Lib.hid hE1
    clear hE1
    go_wp2_with fail
    refine (HP.out _ E1.out).mono ?_; rintro e w2 ⟨rfl, hE2⟩
    have E2 := Lib.hid (E1.out.trans hE2)
    clear hE2
    go_wp2_with fail
    refine (HR.out _ E2.out).mono ?_; rintro e w3 ⟨rfl, hE3⟩
    go_wp2_with fail
    go_ret
    exact ⟨by simp, E2.out.trans hE3⟩
end Go.Proofs.Ytdamlnfjhpmpmaa
