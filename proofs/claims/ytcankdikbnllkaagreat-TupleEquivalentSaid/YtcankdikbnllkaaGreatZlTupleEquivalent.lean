/- The law Equivalent. -/
import Derived.Test.YtcankdikbnllkaaGreatZz38
import Derived.Test.YtcankdikbnllkaaGreatZz45
namespace Go.Proofs.YtcankdikbnllkaaGreat
open Go.ChangeShapes Go.WideShapes Go.ChangeAt Go.RowKit

set_option maxHeartbeats 4000000 in
theorem law_TupleEquivalent (x y : List Five) (vx vy : Value) (w : World) (rx : RdG w vx x) (ry : RdG w vy y) (kx : ∀ z ∈ x, z.ok) (ky : ∀ z ∈ y, z.ok) : Calls Tryz.prog 5 #[vx, vy] w fun e w' => e = .returned (.bool true) ∧ Ext w w' := by
  have HX := Lib.hid rx
  have HY := Lib.hid ry
  have KX := Lib.hid kx
  have KY := Lib.hid ky
  clear rx ry kx ky
  go_enter Tryz.func5, Tryz.ntmps5
  go_wp2_with fail
  refine (built 12 (by omega) x vx w HX.out KX.out).mono ?_; rintro e w1 ⟨v1, ps, rfl, o1, i1, s1, n1⟩
  have HO1 := Lib.hid o1
  have HI1 := Lib.hid i1
  have HN1 := Lib.hid n1
  clear o1 i1 s1 n1
  go_wp2_with fail
  refine (built 12 (by omega) y vy w1 (HY.out.ext HO1.out.2) KY.out).mono ?_; rintro e w2 ⟨v2, qs, rfl, o2, i2, s2, n2⟩
  have HR1 := Lib.hid (HO1.out.rd.ext o2.2)
  have HJ1 := Lib.hid (HI1.out.ext o2.2)
  have HR2 := Lib.hid o2.rd
  have HJ2 := Lib.hid i2
  have HN2 := Lib.hid n2
  have HE2 := Lib.hid (HO1.out.2.trans o2.2)
  clear o2 i2 s2 n2
  go_wp2_with fail
  refine (awake_law _).mono ?_; rintro e w3 ⟨rfl, hE⟩
  have HE3 := Lib.hid hE
  clear hE
  go_wp2_with fail
  refine (equiv_prg ps qs v1 v2 w3 (HR1.out.ext HE3.out) (HR2.out.ext HE3.out) (HJ1.out.ext HE3.out) (HJ2.out.ext HE3.out) (by have := HN1.out; omega) (by have := HN2.out; omega)).mono ?_
  rintro e w4 ⟨b, rfl, hb, hE⟩
  have HB := Lib.hid hb
  have HE4 := Lib.hid (HE3.out.trans hE)
  clear hb hE
  go_wp2_with fail
  refine (equiv_ref ps qs v1 v2 w4 (HR1.out.ext HE4.out) (HR2.out.ext HE4.out) (HJ1.out.ext HE4.out) (HJ2.out.ext HE4.out) (by have := HN1.out; omega) (by have := HN2.out; omega)).mono ?_
  rintro e w5 ⟨c, rfl, hc, hE⟩
  have HE5 := Lib.hid (HE4.out.trans hE)
  obtain rfl : b = c := Bool.eq_iff_iff.2 (HB.out.trans hc.symm)
  clear hc hE HB
  have hbb : (b == b) = true := by simp
  go_wp2_with fail
  refine (equiv_prg ps ps v1 v1 w5 (HR1.out.ext HE5.out) (HR1.out.ext HE5.out) (HJ1.out.ext HE5.out) (HJ1.out.ext HE5.out) (by have := HN1.out; omega) (by have := HN1.out; omega)).mono ?_
  rintro e w6 ⟨d, rfl, hd, hE⟩
  obtain rfl : d = true := hd.2 (eqv_refl _)
  go_wp2_with fail
  go_ret
  exact ⟨rfl, (HE2.out.trans HE5.out).trans hE⟩
end Go.Proofs.YtcankdikbnllkaaGreat
