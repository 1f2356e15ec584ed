/- The walk of the law SetAlgebra: it returns true at every input. -/
import Derived.Test.YtckknhocmbhmhaaLs1
import Derived.Test.YtckknhocmbhmhaaCat
import Derived.Test.YtckknhocmbhmhaaIsx
namespace Go.Proofs.Ytckknhocmbhmhaa
open Go.ChangeShapes Go.WideShapes Go.ChangeAt Go.RowKit

set_option maxHeartbeats 8000000 in
theorem law_SetAlgebra (a b c : List (Int × Int)) (va vb vc : Value) (w : World) (ha : Rd w va a) (hb : Rd w vb b) (hc : Rd w vc c) : Calls Try.prog 7 #[va, vb, vc] w fun e w' => e = .returned (.bool true) ∧ Ext w w' := by
  have HA := Lib.hid ha
  have HB := Lib.hid hb
  have HC := Lib.hid hc
  clear ha hb hc
  by_cases hl : a.length ≤ 40 ∧ b.length ≤ 40
  · by_cases lc : c.length ≤ 40
    · obtain ⟨la, lb⟩ := hl
      go_enter Try.func7, Try.ntmps7
      go_wp2_with fail
      refine (few_yes a b _ _ _ HA.out HB.out la lb).mono ?_
      rintro e w0 ⟨rfl, rfl⟩
      go_wp2_with fail
      refine (few_yes c [] _ _ _ HC.out (rd_nil _) lc (by simp)).mono ?_
      rintro e w0 ⟨rfl, rfl⟩
      go_wp2_with fail
      refine (union_per b c _ _ _ HB.out HC.out (by omega)).mono ?_
      rintro e w1 ⟨v1, l1, rfl, n1, m1, o1, e1'⟩
      have e1 : Ext w w1 := e1'
      have FU := Lib.hid (And.intro n1 m1)
      have RU := Lib.hid (rd_of_owns o1)
      clear n1 m1 o1 e1'
      go_wp2_with fail
      refine (subt_per a _ _ _ _ (HA.out.ext e1) RU.out (by omega) (Nat.le_trans FU.out.1.len (by omega))).mono ?_
      rintro e w2 ⟨v2, l2, rfl, n2, m2, o2, e2'⟩
      have RU := Lib.hid (RU.out.ext e2')
      have e2 : Ext w w2 := e1.trans e2'
      have FX := Lib.hid (And.intro n2 m2)
      have RX := Lib.hid (rd_of_owns o2)
      clear n2 m2 o2 e2'
      go_wp2_with fail
      refine (subt_per a b _ _ _ (HA.out.ext e2) (HB.out.ext e2) (by omega) (by omega)).mono ?_
      rintro e w3 ⟨v3, l3, rfl, n3, m3, o3, e3'⟩
      have RU := Lib.hid (RU.out.ext e3')
      have RX := Lib.hid (RX.out.ext e3')
      have e3 : Ext w w3 := e2.trans e3'
      have FS := Lib.hid (And.intro n3 m3)
      have RS := Lib.hid (rd_of_owns o3)
      clear n3 m3 o3 e3'
      go_wp2_with fail
      refine (subt_per _ c _ _ _ RS.out (HC.out.ext e3) (Nat.le_trans FS.out.1.len (by omega)) (by omega)).mono ?_
      rintro e w4 ⟨v4, l4, rfl, n4, m4, o4, e4'⟩
      have RU := Lib.hid (RU.out.ext e4')
      have RX := Lib.hid (RX.out.ext e4')
      have RS := Lib.hid (RS.out.ext e4')
      have e4 : Ext w w4 := e3.trans e4'
      have FY := Lib.hid (And.intro n4 m4)
      have RY := Lib.hid (rd_of_owns o4)
      clear n4 m4 o4 e4'
      go_wp2_with fail
      refine (inter_per a b _ _ _ (HA.out.ext e4) (HB.out.ext e4) (by omega) (by omega)).mono ?_
      rintro e w5 ⟨v5, l5, rfl, n5, m5, o5, e5'⟩
      have RU := Lib.hid (RU.out.ext e5')
      have RX := Lib.hid (RX.out.ext e5')
      have RS := Lib.hid (RS.out.ext e5')
      have RY := Lib.hid (RY.out.ext e5')
      have e5 : Ext w w5 := e4.trans e5'
      have FM := Lib.hid (And.intro n5 m5)
      have RM := Lib.hid (rd_of_owns o5)
      clear n5 m5 o5 e5'
      go_wp2_with fail
      refine (subt_per a b _ _ _ (HA.out.ext e5) (HB.out.ext e5) (by omega) (by omega)).mono ?_
      rintro e w6 ⟨v6, l6, rfl, n6, m6, o6, e6'⟩
      have RU := Lib.hid (RU.out.ext e6')
      have RX := Lib.hid (RX.out.ext e6')
      have RS := Lib.hid (RS.out.ext e6')
      have RY := Lib.hid (RY.out.ext e6')
      have RM := Lib.hid (RM.out.ext e6')
      have e6 : Ext w w6 := e5.trans e6'
      have FD := Lib.hid (And.intro n6 m6)
      have RD := Lib.hid (rd_of_owns o6)
      clear n6 m6 o6 e6'
      go_wp2_with fail
      refine (awake_law _).mono ?_
      rintro e w7 ⟨rfl, e7'⟩
      have RU := Lib.hid (RU.out.ext e7')
      have RX := Lib.hid (RX.out.ext e7')
      have RS := Lib.hid (RS.out.ext e7')
      have RY := Lib.hid (RY.out.ext e7')
      have RM := Lib.hid (RM.out.ext e7')
      have RD := Lib.hid (RD.out.ext e7')
      have e7 : Ext w w7 := e6.trans e7'
      clear e7'
      go_wp2_with fail
      refine (same_set FX.out.1 FY.out.1 (fun t => by rw [FX.out.2, FY.out.2, subB, subB, FU.out.2, FS.out.2, subB]; cases memB a t <;> cases memB b t <;> cases memB c t <;> rfl) RX.out RY.out).mono ?_
      rintro e w8 ⟨rfl, e8'⟩
      have RU := Lib.hid (RU.out.ext e8')
      have RX := Lib.hid (RX.out.ext e8')
      have RS := Lib.hid (RS.out.ext e8')
      have RY := Lib.hid (RY.out.ext e8')
      have RM := Lib.hid (RM.out.ext e8')
      have RD := Lib.hid (RD.out.ext e8')
      have e8 : Ext w w8 := e7.trans e8'
      clear e8'
      go_wp2_with fail
      refine (union_per _ _ _ _ _ RM.out RD.out (Nat.le_trans (Nat.add_le_add FM.out.1.len FD.out.1.len) (by omega))).mono ?_
      rintro e w9 ⟨v9, l9, rfl, n9, m9, o9, e9'⟩
      have RU := Lib.hid (RU.out.ext e9')
      have RX := Lib.hid (RX.out.ext e9')
      have RS := Lib.hid (RS.out.ext e9')
      have RY := Lib.hid (RY.out.ext e9')
      have RM := Lib.hid (RM.out.ext e9')
      have RD := Lib.hid (RD.out.ext e9')
      have e9 : Ext w w9 := e8.trans e9'
      have FQ := Lib.hid (And.intro n9 m9)
      have RQ := Lib.hid (rd_of_owns o9)
      clear n9 m9 o9 e9'
      go_wp2_with fail
      refine (norm_per a _ _ (HA.out.ext e9) (by omega)).mono ?_
      rintro e w10 ⟨v10, l10, rfl, n10, m10, o10, e10'⟩
      have RU := Lib.hid (RU.out.ext e10')
      have RX := Lib.hid (RX.out.ext e10')
      have RS := Lib.hid (RS.out.ext e10')
      have RY := Lib.hid (RY.out.ext e10')
      have RM := Lib.hid (RM.out.ext e10')
      have RD := Lib.hid (RD.out.ext e10')
      have RQ := Lib.hid (RQ.out.ext e10')
      have e10 : Ext w w10 := e9.trans e10'
      have FN := Lib.hid (And.intro n10 m10)
      have RN := Lib.hid (rd_of_owns o10)
      clear n10 m10 o10 e10'
      go_wp2_with fail
      refine (same_set FQ.out.1 FN.out.1 (fun t => by rw [FQ.out.2, FN.out.2, FM.out.2, FD.out.2, andB, subB]; cases memB a t <;> cases memB b t <;> rfl) RQ.out RN.out).mono ?_
      rintro e w11 ⟨rfl, e11'⟩
      have RU := Lib.hid (RU.out.ext e11')
      have RX := Lib.hid (RX.out.ext e11')
      have RS := Lib.hid (RS.out.ext e11')
      have RY := Lib.hid (RY.out.ext e11')
      have RM := Lib.hid (RM.out.ext e11')
      have RD := Lib.hid (RD.out.ext e11')
      have RQ := Lib.hid (RQ.out.ext e11')
      have RN := Lib.hid (RN.out.ext e11')
      have e11 : Ext w w11 := e10.trans e11'
      clear e11'
      go_wp2_with fail
      refine (inter_per _ _ _ _ _ RM.out RD.out (Nat.le_trans FM.out.1.len (by omega)) (Nat.le_trans FD.out.1.len (by omega))).mono ?_
      rintro e w12 ⟨v12, l12, rfl, n12, m12, o12, e12'⟩
      have RU := Lib.hid (RU.out.ext e12')
      have RX := Lib.hid (RX.out.ext e12')
      have RS := Lib.hid (RS.out.ext e12')
      have RY := Lib.hid (RY.out.ext e12')
      have RM := Lib.hid (RM.out.ext e12')
      have RD := Lib.hid (RD.out.ext e12')
      have RQ := Lib.hid (RQ.out.ext e12')
      have RN := Lib.hid (RN.out.ext e12')
      have e12 : Ext w w12 := e11.trans e12'
      obtain rfl : l12 = [] := nf_unique n12 NF.nil (fun t => by rw [m12, andB, FM.out.2, FD.out.2, andB, subB, memB_nil]; cases memB a t <;> cases memB b t <;> rfl)
      obtain ⟨ad12, cap12, rfl, _⟩ := rd_of_owns o12
      simp only [List.length_nil]
      clear n12 m12 o12 e12'
      go_wp2_with fail
      go_ret
      exact ⟨ret_bool (by simp), e12⟩
    · go_enter Try.func7, Try.ntmps7
      go_wp2_with fail
      refine (few_yes a b _ _ _ HA.out HB.out hl.1 hl.2).mono ?_
      rintro e w0 ⟨rfl, rfl⟩
      go_wp2_with fail
      refine (few_no c [] _ _ _ HC.out (rd_nil _) (by omega)).mono ?_
      rintro e w0 ⟨rfl, rfl⟩
      go_wp2_with fail
      refine (awake_law _).mono ?_
      rintro e w1 ⟨rfl, e1⟩
      go_wp2_with fail
      go_ret
      exact ⟨rfl, e1⟩
  · go_enter Try.func7, Try.ntmps7
    go_wp2_with fail
    refine (few_no a b _ _ _ HA.out HB.out hl).mono ?_
    rintro e w0 ⟨rfl, rfl⟩
    go_wp2_with fail
    refine (awake_law _).mono ?_
    rintro e w1 ⟨rfl, e1⟩
    go_wp2_with fail
    go_ret
    exact ⟨rfl, e1⟩
end Go.Proofs.Ytckknhocmbhmhaa
