/- The walk of the law SetLength: it returns true at every input. -/
import Derived.Test.YtckknhocmbhmhaaLs1
import Derived.Test.YtckknhocmbhmhaaCat
import Derived.Test.YtckknhocmbhmhaaIsx
namespace Go.Proofs.Ytckknhocmbhmhaa
open Go.ChangeShapes Go.WideShapes Go.ChangeAt Go.RowKit

set_option maxHeartbeats 8000000 in
theorem law_SetLength (a b : List (Int × Int)) (va vb : Value) (w : World) (ha : Rd w va a) (hb : Rd w vb b) : Calls Try.prog 8 #[va, vb] w fun e w' => e = .returned (.bool true) ∧ Ext w w' := by
  have HA := Lib.hid ha
  have HB := Lib.hid hb
  clear ha hb
  by_cases hl : a.length ≤ 40 ∧ b.length ≤ 40
  · obtain ⟨la, lb⟩ := hl
    go_enter Try.func8, Try.ntmps8
    go_wp2_with fail
    refine (few_yes a b _ _ _ HA.out HB.out la lb).mono ?_
    rintro e w0 ⟨rfl, rfl⟩
    go_wp2_with fail
    refine (awake_law _).mono ?_
    rintro e w1 ⟨rfl, e1'⟩
    have e1 : Ext w w1 := e1'
    clear e1'
    go_wp2_with fail
    refine (union_per a b _ _ _ (HA.out.ext e1) (HB.out.ext e1) (by omega)).mono ?_
    rintro e w2 ⟨v2, l2, rfl, n2, m2, o2, e2'⟩
    have e2 : Ext w w2 := e1.trans e2'
    have FU := Lib.hid (And.intro n2 m2)
    have RU := Lib.hid (rd_of_owns o2)
    clear n2 m2 o2 e2'
    go_wp2_with fail
    refine (len_per _ _ _ RU.out (Nat.le_trans FU.out.1.len (by omega))).mono ?_
    rintro e w3 ⟨l3, n3, m3, rfl, e3'⟩
    have RU := Lib.hid (RU.out.ext e3')
    have e3 : Ext w w3 := e2.trans e3'
    have b3 := lenL_bd n3
    have Fu := Lib.hid (And.intro n3 m3)
    obtain ⟨zu, hz3⟩ : ∃ z, z = lenL l3 := ⟨_, rfl⟩
    rw [← hz3] at b3 ⊢
    have Zu := Lib.hid hz3
    clear n3 m3 e3' hz3
    go_wp2_with fail
    refine (inter_per a b _ _ _ (HA.out.ext e3) (HB.out.ext e3) (by omega) (by omega)).mono ?_
    rintro e w4 ⟨v4, l4, rfl, n4, m4, o4, e4'⟩
    have RU := Lib.hid (RU.out.ext e4')
    have e4 : Ext w w4 := e3.trans e4'
    have FI := Lib.hid (And.intro n4 m4)
    have RI := Lib.hid (rd_of_owns o4)
    clear n4 m4 o4 e4'
    go_wp2_with fail
    refine (len_per _ _ _ RI.out (Nat.le_trans FI.out.1.len (by omega))).mono ?_
    rintro e w5 ⟨l5, n5, m5, rfl, e5'⟩
    have RU := Lib.hid (RU.out.ext e5')
    have RI := Lib.hid (RI.out.ext e5')
    have e5 : Ext w w5 := e4.trans e5'
    have b5 := lenL_bd n5
    have Fi := Lib.hid (And.intro n5 m5)
    obtain ⟨zi, hz5⟩ : ∃ z, z = lenL l5 := ⟨_, rfl⟩
    rw [← hz5] at b5 ⊢
    have Zi := Lib.hid hz5
    clear n5 m5 e5' hz5
    go_wp2_with fail
    refine (len_per a _ _ (HA.out.ext e5) (by omega)).mono ?_
    rintro e w6 ⟨l6, n6, m6, rfl, e6'⟩
    have RU := Lib.hid (RU.out.ext e6')
    have RI := Lib.hid (RI.out.ext e6')
    have e6 : Ext w w6 := e5.trans e6'
    have b6 := lenL_bd n6
    have Fa := Lib.hid (And.intro n6 m6)
    obtain ⟨za, hz6⟩ : ∃ z, z = lenL l6 := ⟨_, rfl⟩
    rw [← hz6] at b6 ⊢
    have Za := Lib.hid hz6
    clear n6 m6 e6' hz6
    go_wp2_with fail
    refine (len_per b _ _ (HB.out.ext e6) (by omega)).mono ?_
    rintro e w7 ⟨l7, n7, m7, rfl, e7'⟩
    have RU := Lib.hid (RU.out.ext e7')
    have RI := Lib.hid (RI.out.ext e7')
    have e7 : Ext w w7 := e6.trans e7'
    have b7 := lenL_bd n7
    have Fb := Lib.hid (And.intro n7 m7)
    obtain ⟨zb, hz7⟩ : ∃ z, z = lenL l7 := ⟨_, rfl⟩
    rw [← hz7] at b7 ⊢
    have Zb := Lib.hid hz7
    clear n7 m7 e7' hz7
    have hsum : zu + zi = za + zb := by rw [Zu.out, Zi.out, Za.out, Zb.out]; exact len_sum Fa.out.1 Fb.out.1 Fu.out.1 Fi.out.1 (fun t => by rw [Fu.out.2, FU.out.2, Fa.out.2, Fb.out.2]) (fun t => by rw [Fi.out.2, FI.out.2, Fa.out.2, Fb.out.2, andB])
    have HSUM := Lib.hid hsum
    clear hsum
    go_wp2_with fail
    go_ret
    exact ⟨ret_bool (by simp [HSUM.out]), e7⟩
  · go_enter Try.func8, Try.ntmps8
    go_wp2_with fail
    refine (few_no a b _ _ _ HA.out HB.out hl).mono ?_
    rintro e w0 ⟨rfl, rfl⟩
    go_wp2_with fail
    refine (awake_law _).mono ?_
    rintro e w1 ⟨rfl, e1⟩
    go_wp2_with fail
    go_ret
    exact ⟨rfl, e1⟩
end Go.Proofs.Ytckknhocmbhmhaa
