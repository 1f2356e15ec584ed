/- The walks of the laws SetNormalize and SetLength: they return true at every input. -/
import Derived.Test.YtckknhocmbhmhaaLs0
import Derived.Test.YtckknhocmbhmhaaIsr
import Derived.Test.YtckknhocmbhmhaaNrm
namespace Go.Proofs.Ytckknhocmbhmhaa
open Go.ChangeShapes Go.WideShapes Go.ChangeAt Go.RowKit

theorem awake_tail {e : Ending} {w w1 w2 : World} (h : Ext w w1) (k : e = .returned (.bool true) ∧ Ext w1 w2) : e = .returned (.bool true) ∧ Ext w w2 := ⟨k.1, h.trans k.2⟩
set_option maxHeartbeats 8000000 in
theorem law_SetNormalize (a : List (Int × Int)) (va : Value) (w : World) (ha : Rd w va a) : Calls Try.prog 3 #[va] w fun e w' => e = .returned (.bool true) ∧ Ext w w' := by
  have HA := Lib.hid ha
  clear ha
  by_cases hl : a.length ≤ 40
  · go_enter Try.func3, Try.ntmps3
    go_wp2_with fail
    refine (few_yes a [] _ _ _ HA.out (rd_nil _) hl (by simp)).mono ?_
    rintro e w0 ⟨rfl, rfl⟩
    go_wp2_with fail
    refine (awake_law _).mono ?_
    rintro e w1 ⟨rfl, e1⟩
    go_wp2_with fail
    refine (isn_per a va w1 (HA.out.ext e1)).mono ?_
    rintro e w2 ⟨rfl, g2⟩
    have e2 := e1.trans (ext_of_grown g2)
    generalize hq : nfB a = q
    have HQ := Lib.hid hq
    clear g2 hq
    go_wp2_with fail
    have hir := isn_ref a va w2 (HA.out.ext e2)
    rw [HQ.out] at hir
    refine hir.mono ?_
    rintro e w3 ⟨rfl, e3'⟩
    have e3 := e2.trans e3'
    clear e3' hir
    go_wp2_with fail
    refine (norm_per a va w3 (HA.out.ext e3) (by omega)).mono ?_
    rintro e w4 ⟨v4, l4, rfl, n4, m4, o4, e4'⟩
    have e4 := e3.trans e4'
    have H4 := Lib.hid (And.intro n4 (And.intro m4 o4))
    clear n4 m4 o4 e4'
    go_wp2_with fail
    refine (norm_ref a va w4 (HA.out.ext e4)).mono ?_
    rintro e w5 ⟨v5, l5, rfl, n5, m5, o5, e5'⟩
    have e5 := e4.trans e5'
    have H5 := Lib.hid (And.intro n5 (And.intro m5 (And.intro o5 e5')))
    clear n5 m5 o5 e5'
    go_wp2_with fail
    refine (same_set H4.out.1 H5.out.1 (fun t => by rw [H4.out.2.1, H5.out.2.1]) ((rd_of_owns H4.out.2.2).ext H5.out.2.2.2) (rd_of_owns H5.out.2.2.1)).mono ?_
    rintro e w6 ⟨rfl, e6'⟩
    have e6 := e5.trans e6'
    clear e6'
    go_wp2_with fail
    refine (len_per a va w6 (HA.out.ext e6) (by omega)).mono ?_
    rintro e w7 ⟨l7, n7, m7, rfl, e7'⟩
    have e7 := e6.trans e7'
    have H7 := Lib.hid (And.intro n7 m7)
    clear n7 m7 e7'
    go_wp2_with fail
    refine (len_ref a va w7 (HA.out.ext e7)).mono ?_
    rintro e w8 ⟨l8, n8, m8, rfl, e8'⟩
    have e8 := e7.trans e8'
    obtain rfl := nf_unique H7.out.1 n8 (fun t => by rw [H7.out.2, m8])
    clear n8 m8 e8'
    go_wp2_with fail
    go_ret
    exact ⟨ret_bool (by simp), e8⟩
  · go_enter Try.func3, Try.ntmps3
    go_wp2_with fail
    refine (few_no a [] _ _ _ HA.out (rd_nil _) (by omega)).mono ?_
    rintro e w0 ⟨rfl, rfl⟩
    go_wp2_with fail
    refine (awake_law _).mono ?_
    rintro e w1 ⟨rfl, e1⟩
    go_wp2_with fail
    go_ret
    exact ⟨rfl, e1⟩
end Go.Proofs.Ytckknhocmbhmhaa
