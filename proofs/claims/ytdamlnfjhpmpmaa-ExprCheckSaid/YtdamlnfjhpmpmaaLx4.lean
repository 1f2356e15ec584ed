/- The law ExprCheck. -/
import Derived.Test.YtdamlnfjhpmpmaaLx1
import Derived.Test.YtdamlnfjhpmpmaaRc3
namespace Go.Proofs.Ytdamlnfjhpmpmaa
open Go.ChangeShapes Go.WideShapes Go.ChangeAt Go.RowKit

set_option maxHeartbeats 4000000 in
set_option maxRecDepth 100000 in
theorem law_ExprCheck (l : List X) (root : Int) (cols : List Int) (vl vc : Value) (w : World) (rl : RdG w vl l) (rc : RdG w vc cols) :
    Calls Try.prog 3 #[vl, .int .i64 root, vc] w fun e w' => e = .returned (.bool true) ∧ Ext w w' := by
  have hF := few_law l vl cols.length w rl
  have hP := check_prg l root cols vl vc w rl rc
  have hR := fun w' (e : Ext w w') => check_ref l root cols vl vc w' (rl.ext e) (rc.ext e)
  generalize chkV l root cols = pq at *
  obtain ⟨p, q⟩ := pq
  obtain ⟨al, cl, rfl, _, _⟩ := rl.shape
  obtain ⟨ac, cc, rfl, _, _⟩ := rc.shape
  have HP := Lib.hid hP
  have HR := Lib.hid hR
  clear hP hR rl rc
  cases h : fewB l.length cols.length with
  | false =>
    rw [h] at hF
    have HF := Lib.hid hF
    clear hF h
    go_enter Try.func3, Try.ntmps3
    go_wp2_with fail
    refine HF.out.mono ?_; rintro e w1 ⟨rfl, rfl⟩
    go_wp2_with fail
    refine (awake_law _).mono ?_; rintro e w1 ⟨rfl, hE⟩
    go_wp2_with fail
    go_ret
    exact ⟨rfl, hE⟩
  | true =>
    rw [h] at hF
    have HF := Lib.hid hF
    clear hF h
    go_enter Try.func3, Try.ntmps3
    go_wp2_with fail
    refine HF.out.mono ?_; rintro e w1 ⟨rfl, rfl⟩
    go_wp2_with fail
    refine HP.out.mono ?_; rintro e w1 ⟨rfl, hE1⟩
    have E1 := Lib.hid hE1
    clear hE1
    go_wp2_with fail
    refine (HR.out _ E1.out).mono ?_; rintro e w2 ⟨rfl, hE2⟩
    have E2 := Lib.hid (E1.out.trans hE2)
    clear hE2
    go_wp2_with fail
    refine (awake_law _).mono ?_; rintro e w3 ⟨rfl, hE3⟩
    go_wp2_with fail
    go_ret
    exact ⟨by simp, E2.out.trans hE3⟩
end Go.Proofs.Ytdamlnfjhpmpmaa
