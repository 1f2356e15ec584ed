/- The laws Normalize, Preserves. -/
import Derived.Test.YtcankdikbnllkaaGreatZz38
import Derived.Test.YtcankdikbnllkaaGreatZz42
import Derived.Test.YtcankdikbnllkaaGreatZz43
import Derived.Test.YtcankdikbnllkaaGreatZz40
namespace Go.Proofs.YtcankdikbnllkaaGreat
open Go.ChangeShapes Go.WideShapes Go.ChangeAt Go.RowKit

theorem few_sm {ps : List TP} {k : Int} (h : FewT ps k) : SmT ps := fun p hp => by have := h.2 p hp; omega
set_option maxHeartbeats 4000000 in
theorem law_TupleNormalize (ps : List TP) (v : Value) (w : World) (h : RdG w v ps) (hI : RdTs w ps) : Calls Tryz.prog 4 #[v] w fun e w' => e = .returned (.bool true) ∧ Ext w w' := by
  have H := Lib.hid h
  have HI := Lib.hid hI
  clear h hI
  go_enter Tryz.func4, Tryz.ntmps4
  go_wp2_with fail
  refine (fewT_law ps 16 v w H.out HI.out (by omega) (by omega)).mono ?_; rintro e w1 ⟨b, rfl, hb, rfl⟩
  cases b with
  | false =>
    clear hb
    go_wp2_with fail
    refine (awake_law _).mono ?_; rintro e w2 ⟨rfl, hE⟩
    go_wp2_with fail
    go_ret
    exact ⟨rfl, hE⟩
  | true =>
    have HB := Lib.hid (hb rfl)
    have HPL := Lib.hid (show ps.length ≤ 16 by have := (hb rfl).1; omega)
    clear hb
    go_wp2_with fail
    refine (awake_law _).mono ?_; rintro e w2 ⟨rfl, hE⟩
    have HE2 := Lib.hid hE
    clear hE
    go_wp2_with fail
    refine (norm_prg ps v w2 (H.out.ext HE2.out) (HI.out.ext HE2.out) (by have := HPL.out; omega) (few_sm HB.out)).mono ?_
    rintro e w3 ⟨v3, qs, rfl, r1, r2, r3, _, r5⟩
    have HR1 := Lib.hid r1
    have HR2 := Lib.hid r2
    have HR3 := Lib.hid r3
    have HE3 := Lib.hid (HE2.out.trans r5)
    clear r1 r2 r3 r5
    go_wp2_with fail
    refine (norm_ref9 ps v w3 (H.out.ext HE3.out) (HI.out.ext HE3.out) (by have := HPL.out; omega)).mono ?_
    rintro e w4 ⟨v4, rs, rfl, s1, s2, s3, s4⟩
    have HS1 := Lib.hid s1
    have HS2 := Lib.hid s2
    have HS3 := Lib.hid s3
    have HE4 := Lib.hid s4
    clear s1 s2 s3 s4
    go_wp2_with fail
    refine (sameT_ref qs rs v3 v4 w4 (HR1.out.ext HE4.out) HS1.out (HR2.out.ext HE4.out) HS2.out).mono ?_
    rintro e w5 ⟨rfl, hE5⟩
    have HT := Lib.hid (show tuB (tus qs) (tus rs) = true by unfold tuB; rw [decide_eq_true_iff]; exact HR3.out.unique HS3.out)
    rw [HT.out]
    go_wp2_with fail
    go_ret
    exact ⟨rfl, (HE3.out.trans HE4.out).trans hE5⟩
theorem sl_nf {l N : List Tu} (h : IsNf (ats l) N) (t : Int) : sl N t = sl l t := sl_eq.2 fun r => h.cnt r t
set_option maxHeartbeats 4000000 in
theorem law_TuplePreserves (ps : List TP) (t : Int) (v : Value) (w : World) (h : RdG w v ps) (hI : RdTs w ps) : Calls Tryz.prog 6 #[v, .int .i64 t] w fun e w' => e = .returned (.bool true) ∧ Ext w w' := by
  have H := Lib.hid h
  have HI := Lib.hid hI
  clear h hI
  go_enter Tryz.func6, Tryz.ntmps6
  go_wp2_with fail
  refine (fewT_law ps 16 v w H.out HI.out (by omega) (by omega)).mono ?_; rintro e w1 ⟨b, rfl, hb, rfl⟩
  cases b with
  | false =>
    clear hb
    go_wp2_with fail
    refine (awake_law _).mono ?_; rintro e w2 ⟨rfl, hE⟩
    go_wp2_with fail
    go_ret
    exact ⟨rfl, hE⟩
  | true =>
    have HB := Lib.hid (hb rfl)
    have HPL := Lib.hid (show ps.length ≤ 16 by have := (hb rfl).1; omega)
    clear hb
    go_wp2_with fail
    refine (awake_law _).mono ?_; rintro e w2 ⟨rfl, hE⟩
    have HE2 := Lib.hid hE
    clear hE
    go_wp2_with fail
    refine (norm_prg ps v w2 (H.out.ext HE2.out) (HI.out.ext HE2.out) (by have := HPL.out; omega) (few_sm HB.out)).mono ?_
    rintro e w3 ⟨v3, qs, rfl, r1, r2, r3, r4, r5⟩
    have HR1 := Lib.hid r1
    have HR2 := Lib.hid r2
    have HR3 := Lib.hid r3
    have HR4 := Lib.hid r4
    have HE3 := Lib.hid (HE2.out.trans r5)
    clear r1 r2 r3 r4 r5
    go_wp2_with fail
    refine (tslice_prg qs t v3 w3 HR1.out HR2.out (by have := HR4.out; have := HPL.out; omega) ((few_sm HB.out).nf HR3.out)).mono ?_
    rintro e w4 ⟨v4, rs, rfl, s1, s2, s3, s4⟩
    have HS1 := Lib.hid s1
    have HS2 := Lib.hid s2
    have HS3 := Lib.hid s3
    have HE4 := Lib.hid (HE3.out.trans s4)
    clear s1 s2 s3 s4
    go_wp2_with fail
    refine (tslice_prg ps t v w4 (H.out.ext HE4.out) (HI.out.ext HE4.out) (by have := HPL.out; omega) (few_sm HB.out)).mono ?_
    rintro e w5 ⟨v5, us, rfl, u1, u2, u3, u4⟩
    have HU1 := Lib.hid u1
    have HU2 := Lib.hid u2
    have HU3 := Lib.hid u3
    have HE5 := Lib.hid u4
    clear u1 u2 u3 u4
    go_wp2_with fail
    refine (sameRows_ref rs us v4 v5 w5 (HS1.out.ext HE5.out) HU1.out (HS2.out.ext HE5.out) HU2.out).mono ?_
    rintro e w6 ⟨rfl, hE6⟩
    have HT := Lib.hid (show srB (rows rs) (rows us) = true by unfold srB; rw [decide_eq_true_iff, HS3.out, HU3.out]; exact sl_nf HR3.out t)
    rw [HT.out]
    go_wp2_with fail
    go_ret
    exact ⟨rfl, (HE4.out.trans HE5.out).trans hE6⟩
end Go.Proofs.YtcankdikbnllkaaGreat
