/- The law CoalesceDefinition. -/
import Derived.Test.YtnckdopphimgoaaGreatZz32
import Derived.Test.YtnckdopphimgoaaGreatZz39
import Derived.Test.YtnckdopphimgoaaGreatZz35
namespace Go.Proofs.YtnckdopphimgoaaGreat
open Go.ChangeShapes Go.WideShapes Go.ChangeAt Go.RowKit

theorem few_sm {ps : List TP} {k : Int} (h : FewT ps k) : SmT ps := fun p hp => by have := h.2 p hp; omega
theorem SmT.co {ps qs : List TP} (h : SmT ps) (k : IsCo (tus ps) (tus qs)) : SmT qs := h.bare.nf (by rw [tus_bare]; exact k)
set_option maxHeartbeats 8000000 in
set_option maxRecDepth 100000 in
theorem law_CoalesceDefinition (ps : List TP) (v : Value) (w : World) (h : RdG w v ps) (hI : RdTs w ps) : Calls Tryz.prog 3 #[v] w fun e w' => e = .returned (.bool true) ∧ Ext w w' := by
  have H := Lib.hid h
  have HI := Lib.hid hI
  clear h hI
  go_enter Tryz.func3, Tryz.ntmps3
  go_wp2_with fail
  refine (fewT_law ps 16 v w H.out HI.out (by omega) (by omega)).mono ?_; rintro e w1 ⟨b, rfl, hb, rfl⟩
  cases b with
  | false =>
    clear hb
    go_wp2_with fail
    refine (awake_law _).mono ?_; rintro e w2 ⟨rfl, hE⟩
    go_wp2_with fail
    go_ret
    exact ⟨rfl, hE⟩
  | true =>
    have HSM := Lib.hid (few_sm (hb rfl))
    have HPL := Lib.hid (show ps.length ≤ 16 by have := (hb rfl).1; omega)
    clear hb
    go_wp2_with fail
    refine (co_ref ps v w H.out HI.out (by have := HPL.out; omega)).mono ?_
    rintro e w2 ⟨v2, cs, rfl, r1, r2, r3, r5⟩
    have HC1 := Lib.hid r1
    have HC2 := Lib.hid r2
    have HC3 := Lib.hid r3
    have HCS := Lib.hid (HSM.out.co r3)
    have HE2 := Lib.hid r5
    clear r1 r2 r3 r5
    go_wp2_with fail
    refine (awake_law _).mono ?_; rintro e w3 ⟨rfl, hE⟩
    have HE3 := Lib.hid hE
    clear hE
    go_wp2_with fail
    refine (co_prg ps v w3 (H.out.ext (HE2.out.trans HE3.out)) (HI.out.ext (HE2.out.trans HE3.out)) (by have := HPL.out; omega) HSM.out).mono ?_
    rintro e w4 ⟨v4, qs, rfl, s1, s2, s3, s4, _, s5⟩
    have heq : tus qs = tus cs := IsNf.unique s3 HC3.out
    have HCL := Lib.hid (show cs.length ≤ 16 by
      have h1 := congrArg List.length heq
      rw [tus_len, tus_len] at h1
      have := HPL.out
      omega)
    have HT := Lib.hid (show tuB (tus qs) (tus cs) = true by rw [heq]; unfold tuB; simp)
    have HQ1 := Lib.hid s1
    have HQ2 := Lib.hid s2
    have HE4 := Lib.hid (HE3.out.trans s5)
    clear s1 s2 s3 s4 s5 heq
    go_wp2_with fail
    refine (sameT_ref qs cs v4 v2 w4 HQ1.out (HC1.out.ext HE4.out) HQ2.out (HC2.out.ext HE4.out)).mono ?_
    rintro e w5 ⟨rfl, hE5⟩
    rw [HT.out]
    have HE5 := Lib.hid (HE4.out.trans hE5)
    clear hE5
    go_wp2_with fail
    refine (isco_prg ps v w5 (H.out.ext (HE2.out.trans HE5.out)) (HI.out.ext (HE2.out.trans HE5.out)) (by have := HPL.out; omega) HSM.out).mono ?_
    rintro e w6 ⟨b, rfl, hb, hE6⟩
    have HB := Lib.hid (hb _ HC3.out)
    have HE6 := Lib.hid (HE5.out.trans hE6)
    clear hb hE6
    go_wp2_with fail
    refine (sameT_ref ps cs v v2 w6 (H.out.ext (HE2.out.trans HE6.out)) (HC1.out.ext HE6.out) (HI.out.ext (HE2.out.trans HE6.out)) (HC2.out.ext HE6.out)).mono ?_
    rintro e w7 ⟨rfl, hE7⟩
    rw [← HB.out]
    have HE7 := Lib.hid (HE6.out.trans hE7)
    clear hE7 HB
    cases b
    all_goals
      go_wp2_with fail
      refine (isco_prg cs v2 w7 (HC1.out.ext HE7.out) (HC2.out.ext HE7.out) (by have := HCL.out; omega) HCS.out).mono ?_
      rintro e w8 ⟨b, rfl, hb, hE8⟩
      have hbt : b = true := by rw [hb _ (co_self HC3.out)]; unfold tuB; simp
      subst hbt
      clear hb
      go_wp2_with fail
      go_ret
      exact ⟨rfl, (HE2.out.trans HE7.out).trans hE8⟩
end Go.Proofs.YtnckdopphimgoaaGreat
