/- Contracts of the program's Intersect and Subtract. -/
import Derived.Test.YtckknhocmbhmhaaCom2
import Derived.Test.YtckknhocmbhmhaaSrt2
namespace Go.Proofs.Ytckknhocmbhmhaa
open Go.ChangeShapes Go.WideShapes Go.ChangeAt Go.RowKit

set_option maxHeartbeats 2000000 in
theorem inter_per (a b : List (Int × Int)) (va vb : Value) (w : World) (ha : Rd w va a) (hb : Rd w vb b) (la : a.length ≤ 4398046511104) (lb : b.length ≤ 4398046511104) : Calls Try.prog 20 #[va, vb] w (SetPost (andB a b) w) := by
  have HA := Lib.hid ha
  have HB := Lib.hid hb
  clear ha hb
  go_enter Try.func20, Try.ntmps20
  go_wp2_with fail
  refine (norm_per a va w HA.out la).mono ?_
  rintro e w1 ⟨v1, l1, rfl, n1, m1, o1, e1⟩
  have H1 := Lib.hid (And.intro n1 (And.intro m1 o1))
  clear n1 m1 o1
  go_wp2_with fail
  refine (norm_per b vb w1 (HB.out.ext e1) lb).mono ?_
  rintro e w2 ⟨v2, l2, rfl, n2, m2, o2, e2⟩
  have H2 := Lib.hid (And.intro n2 (And.intro m2 o2))
  clear n2 m2 o2
  go_wp2_with fail
  refine (common_per l1 l2 v1 v2 w2 (rd_of_owns (e2.owns H1.out.2.2)) (rd_of_owns H2.out.2.2) H1.out.1 H2.out.1).mono ?_
  rintro e w3 ⟨v3, l3, rfl, n3, m3, o3, e3⟩
  have H3 := Lib.hid (And.intro n3 (And.intro m3 o3))
  clear n3 m3 o3
  go_wp2_with fail
  go_ret
  exact ⟨_, l3, rfl, H3.out.1, fun t => by rw [H3.out.2.1, andB, andB, H1.out.2.1, H2.out.2.1], H3.out.2.2, (e1.trans e2).trans e3⟩
set_option maxHeartbeats 2000000 in
theorem subt_per (a b : List (Int × Int)) (va vb : Value) (w : World) (ha : Rd w va a) (hb : Rd w vb b) (la : a.length ≤ 4398046511104) (lb : b.length ≤ 4398046511104) : Calls Try.prog 22 #[va, vb] w (SetPost (subB a b) w) := by
  have HA := Lib.hid ha
  have HB := Lib.hid hb
  clear ha hb
  go_enter Try.func22, Try.ntmps22
  go_wp2_with fail
  refine (norm_per a va w HA.out la).mono ?_
  rintro e w1 ⟨v1, l1, rfl, n1, m1, o1, e1⟩
  have H1 := Lib.hid (And.intro n1 (And.intro m1 o1))
  clear n1 m1 o1
  go_wp2_with fail
  refine (norm_per b vb w1 (HB.out.ext e1) lb).mono ?_
  rintro e w2 ⟨v2, l2, rfl, n2, m2, o2, e2⟩
  have H2 := Lib.hid (And.intro n2 (And.intro m2 o2))
  clear n2 m2 o2
  go_wp2_with fail
  refine (compl_per l2 v2 w2 (rd_of_owns H2.out.2.2) H2.out.1).mono ?_
  rintro e w3 ⟨v3, l3, rfl, n3, m3, o3, e3⟩
  have H3 := Lib.hid (And.intro n3 (And.intro m3 o3))
  clear n3 m3 o3
  go_wp2_with fail
  refine (common_per l1 l3 v1 v3 w3 (rd_of_owns ((e2.trans e3).owns H1.out.2.2)) (rd_of_owns H3.out.2.2) H1.out.1 H3.out.1).mono ?_
  rintro e w4 ⟨v4, l4, rfl, n4, m4, o4, e4⟩
  have H4 := Lib.hid (And.intro n4 (And.intro m4 o4))
  clear n4 m4 o4
  go_wp2_with fail
  go_ret
  refine ⟨_, l4, rfl, H4.out.1, fun t => ?_, H4.out.2.2, ((e1.trans e2).trans e3).trans e4⟩
  rw [H4.out.2.1, andB, subB, H1.out.2.1, H3.out.2.1, cplB, H2.out.2.1]
  cases hm : memB a t
  · rfl
  · have := memB_bd hm
    rw [decide_eq_true this]; simp
end Go.Proofs.Ytckknhocmbhmhaa
