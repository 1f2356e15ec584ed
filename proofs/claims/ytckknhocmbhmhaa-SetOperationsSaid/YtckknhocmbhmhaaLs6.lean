/- The walk of the law SetOperations: it returns true at every input. -/
import Derived.Test.YtckknhocmbhmhaaLs1
import Derived.Test.YtckknhocmbhmhaaCat
import Derived.Test.YtckknhocmbhmhaaIsx
import Derived.Test.YtckknhocmbhmhaaRst2
import Derived.Test.YtckknhocmbhmhaaRst3
namespace Go.Proofs.Ytckknhocmbhmhaa
open Go.ChangeShapes Go.WideShapes Go.ChangeAt Go.RowKit

set_option maxHeartbeats 8000000 in
theorem law_SetOperations (a b : List (Int × Int)) (va vb : Value) (w : World) (ha : Rd w va a) (hb : Rd w vb b) : Calls Try.prog 4 #[va, vb] w fun e w' => e = .returned (.bool true) ∧ Ext w w' := by
  have HA := Lib.hid ha
  have HB := Lib.hid hb
  clear ha hb
  by_cases hl : a.length ≤ 40 ∧ b.length ≤ 40
  · obtain ⟨la, lb⟩ := hl
    go_enter Try.func4, Try.ntmps4
    go_wp2_with fail
    refine (few_yes a b _ _ _ HA.out HB.out la lb).mono ?_
    rintro e w0 ⟨rfl, rfl⟩
    go_wp2_with fail
    refine (awake_law _).mono ?_
    rintro e w1 ⟨rfl, e1'⟩
    have e1 : Ext w w1 := e1'
    clear e1'
    go_wp2_with fail
    refine (union_per a b _ _ _ (HA.out.ext e1) (HB.out.ext e1) (by omega)).mono ?_
    rintro e w2 ⟨v2, l2, rfl, n2, m2, o2, e2'⟩
    have e2 : Ext w w2 := e1.trans e2'
    have FU := Lib.hid (And.intro n2 m2)
    have RU := Lib.hid (rd_of_owns o2)
    clear n2 m2 o2 e2'
    go_wp2_with fail
    refine (union_ref a b _ _ _ (HA.out.ext e2) (HB.out.ext e2) (by omega)).mono ?_
    rintro e w3 ⟨v3, l3, rfl, n3, m3, o3, e3'⟩
    have RU := Lib.hid (RU.out.ext e3')
    have e3 : Ext w w3 := e2.trans e3'
    have FV := Lib.hid (And.intro n3 m3)
    have RV := Lib.hid (rd_of_owns o3)
    clear n3 m3 o3 e3'
    go_wp2_with fail
    refine (same_set FU.out.1 FV.out.1 (fun t => by rw [FU.out.2, FV.out.2]) RU.out RV.out).mono ?_
    rintro e w4 ⟨rfl, e4'⟩
    have RU := Lib.hid (RU.out.ext e4')
    have RV := Lib.hid (RV.out.ext e4')
    have e4 : Ext w w4 := e3.trans e4'
    clear e4'
    go_wp2_with fail
    refine (inter_per a b _ _ _ (HA.out.ext e4) (HB.out.ext e4) (by omega) (by omega)).mono ?_
    rintro e w5 ⟨v5, l5, rfl, n5, m5, o5, e5'⟩
    have RU := Lib.hid (RU.out.ext e5')
    have RV := Lib.hid (RV.out.ext e5')
    have e5 : Ext w w5 := e4.trans e5'
    have FI := Lib.hid (And.intro n5 m5)
    have RI := Lib.hid (rd_of_owns o5)
    clear n5 m5 o5 e5'
    go_wp2_with fail
    refine (inter_ref a b _ _ _ (HA.out.ext e5) (HB.out.ext e5)).mono ?_
    rintro e w6 ⟨v6, l6, rfl, n6, m6, o6, e6'⟩
    have RU := Lib.hid (RU.out.ext e6')
    have RV := Lib.hid (RV.out.ext e6')
    have RI := Lib.hid (RI.out.ext e6')
    have e6 : Ext w w6 := e5.trans e6'
    have FJ := Lib.hid (And.intro n6 m6)
    have RJ := Lib.hid (rd_of_owns o6)
    clear n6 m6 o6 e6'
    go_wp2_with fail
    refine (same_set FI.out.1 FJ.out.1 (fun t => by rw [FI.out.2, FJ.out.2]) RI.out RJ.out).mono ?_
    rintro e w7 ⟨rfl, e7'⟩
    have RU := Lib.hid (RU.out.ext e7')
    have RV := Lib.hid (RV.out.ext e7')
    have RI := Lib.hid (RI.out.ext e7')
    have RJ := Lib.hid (RJ.out.ext e7')
    have e7 : Ext w w7 := e6.trans e7'
    clear e7'
    go_wp2_with fail
    refine (subt_per a b _ _ _ (HA.out.ext e7) (HB.out.ext e7) (by omega) (by omega)).mono ?_
    rintro e w8 ⟨v8, l8, rfl, n8, m8, o8, e8'⟩
    have RU := Lib.hid (RU.out.ext e8')
    have RV := Lib.hid (RV.out.ext e8')
    have RI := Lib.hid (RI.out.ext e8')
    have RJ := Lib.hid (RJ.out.ext e8')
    have e8 : Ext w w8 := e7.trans e8'
    have FD := Lib.hid (And.intro n8 m8)
    have RD := Lib.hid (rd_of_owns o8)
    clear n8 m8 o8 e8'
    go_wp2_with fail
    refine (subt_ref a b _ _ _ (HA.out.ext e8) (HB.out.ext e8)).mono ?_
    rintro e w9 ⟨v9, l9, rfl, n9, m9, o9, e9'⟩
    have RU := Lib.hid (RU.out.ext e9')
    have RV := Lib.hid (RV.out.ext e9')
    have RI := Lib.hid (RI.out.ext e9')
    have RJ := Lib.hid (RJ.out.ext e9')
    have RD := Lib.hid (RD.out.ext e9')
    have e9 : Ext w w9 := e8.trans e9'
    have FE := Lib.hid (And.intro n9 m9)
    have RE := Lib.hid (rd_of_owns o9)
    clear n9 m9 o9 e9'
    go_wp2_with fail
    refine (same_set FD.out.1 FE.out.1 (fun t => by rw [FD.out.2, FE.out.2]) RD.out RE.out).mono ?_
    rintro e w10 ⟨rfl, e10'⟩
    have RU := Lib.hid (RU.out.ext e10')
    have RV := Lib.hid (RV.out.ext e10')
    have RI := Lib.hid (RI.out.ext e10')
    have RJ := Lib.hid (RJ.out.ext e10')
    have RD := Lib.hid (RD.out.ext e10')
    have RE := Lib.hid (RE.out.ext e10')
    have e10 : Ext w w10 := e9.trans e10'
    clear e10'
    go_wp2_with fail
    go_ret
    exact ⟨rfl, e10⟩
  · go_enter Try.func4, Try.ntmps4
    go_wp2_with fail
    refine (few_no a b _ _ _ HA.out HB.out hl).mono ?_
    rintro e w0 ⟨rfl, rfl⟩
    go_wp2_with fail
    refine (awake_law _).mono ?_
    rintro e w1 ⟨rfl, e1⟩
    go_wp2_with fail
    go_ret
    exact ⟨rfl, e1⟩
end Go.Proofs.Ytckknhocmbhmhaa
