/- The law BagPermute. -/
import Derived.Test.YtohpmbabegpefaaAw8
import Derived.Test.YtohpmbabegpefaaFw8
import Derived.Test.YtohpmbabegpefaaLs9
namespace Go.Proofs.Ytohpmbabegpefaa
open Go.ChangeShapes Go.WideShapes Go.ChangeAt Go.RowKit

theorem eqB_perm {a b : List R} (h : a.Perm b) : eqB a b = true := by unfold eqB; simpa using sortR_eq.2 h
theorem eqB_len {a b : List R} (h : a.length ≠ b.length) : eqB a b = false := by
  unfold eqB
  simp only [decide_eq_false_iff_not]
  intro e
  exact h (sortR_eq.1 e).length_eq
set_option maxHeartbeats 8000000 in
set_option maxRecDepth 100000 in
theorem law_BagPermute (ps : List P) (k : Int) (va : Value) (w : World) (ra : RdG w va ps) (ia : RdAll w ps) (hk0 : 0 ≤ k) (hk1 : k ≤ 255) : Calls Try.prog 5 #[va, .int .u8 k] w fun e w' => e = .returned (.bool true) ∧ Ext w w' := by
  obtain ⟨aa, ca, rfl, la1, la2⟩ := ra.shape
  have HA := Lib.hid ra
  have IA := Lib.hid ia
  have hflow := few_law ps 40 _ w ra ia (by decide) (by decide)
  have HFW := Lib.hid hflow
  clear ra ia hflow
  obtain ⟨n, hn⟩ : ∃ z, z = ps.length := ⟨_, rfl⟩
  have HN := Lib.hid hn
  rw [← hn] at HA HFW la1 ⊢
  clear hn
  unfold maxLen at la2
  by_cases h0 : n = 0
  · subst h0
    go_enter Try.func5, Try.ntmps5
    go_wp2_with fail
    refine HFW.out.mono ?_; rintro e w0 ⟨f1, rfl, hf1, rfl⟩
    clear hf1
    cases f1
    all_goals
      go_wp2_with fail
      refine (awake_law _).mono ?_; rintro e w1 ⟨rfl, hE1⟩
      have X1 := Lib.hid hE1
      clear hE1
      go_wp2_with fail
      go_ret
      exact ⟨rfl, X1.out⟩
  · obtain ⟨i0, hi0⟩ : ∃ z : Nat, z = (k.toNat) % n := ⟨_, rfl⟩
    have hi1 : i0 < n := by rw [hi0]; exact Nat.mod_lt _ (by omega)
    have hkn : k = (k.toNat : Int) := by omega
    have hr : k % (n : Int) = (i0 : Int) := by rw [hi0, hkn]; simp
    have hr2 : Int.tmod k (n : Int) = (i0 : Int) := by rw [Int.tmod_eq_emod_of_nonneg hk0]; exact hr
    have hb0 : (0 : Int) ≤ (i0 : Int) := Int.natCast_nonneg _
    have hb1 : (i0 : Int) ≤ (ca : Int) := by omega
    have hb2 : (i0 : Int) ≤ (n : Int) := by omega
    have hb3 : (n : Int) ≤ (ca : Int) := by omega
    have hne : ¬ ((n : Int) = 0) := by omega
    have hne2 : ((n : Int) == 0) = false := by simp; omega
    have hwr : IntKind.i64.wrap (i0 : Int) = (i0 : Int) := by simp only [IntKind.wrap, IntKind.bits, IntKind.signed]; simp; omega
    have hwk : IntKind.i64.wrap k = k := by simp only [IntKind.wrap, IntKind.bits, IntKind.signed]; simp; omega
    obtain ⟨g0, o0, rfl, -⟩ := rd_P HA.out 0 (by rw [← HN.out]; omega)
    have HD1 := Lib.hid (show RdG w (.slice (if ca = i0 then some ⟨g0, o0, none⟩ else some ⟨g0, o0 + i0 * 2, none⟩) (n - i0) (ca - i0)) (ps.drop i0) by rw [if_neg (by omega)]; exact HA.out.drop (show i0 ≤ n by omega))
    have HT1 := Lib.hid (HA.out.take i0 (by rw [← HN.out]; omega))
    have HLD := Lib.hid (show (ps.drop i0).length = n - i0 by rw [List.length_drop, ← HN.out])
    have HLT := Lib.hid (show (ps.take i0).length = i0 by rw [List.length_take, ← HN.out]; omega)
    clear hi0 hkn
    go_enter Try.func5, Try.ntmps5
    go_wp2_with fail
    refine HFW.out.mono ?_; rintro e w0 ⟨f1, rfl, hf1, rfl⟩
    cases f1 with
    | false =>
      clear hf1
      go_wp2_with fail
      refine (awake_law _).mono ?_; rintro e w1 ⟨rfl, hE1⟩
      have X1 := Lib.hid hE1
      clear hE1
      go_wp2_with fail
      go_ret
      exact ⟨rfl, X1.out⟩
    | true =>
      have F1 := Lib.hid (hf1 rfl)
      have LA := Lib.hid (show ps.length ≤ 1000000 by have := F1.out.1; omega)
      have SA := Lib.hid (show Small ps from fun p hp => by have := F1.out.2 p hp; omega)
      have LN := Lib.hid (show n ≤ 40 by have := F1.out.1; have := HN.out; omega)
      clear hf1
      have FIRST : True := trivial
      go_wp2_with fail
      go_region_held3 (fun _ => True) (trivial) (first | (clear FIRST; refine step_appG tP rfl _ _ rfl w (.slice none 0 0) [] rfl ?a1 _ (ps.drop i0) rfl ?a2 ?a3 ?_; (case a1 => exact OwnG.nil _ _ _ (by first | exact Ext.refl _ | exact (Ext.refl _).drew)); (have z2 := HD1.out.ext (Ext.refl w).drew; have z3 := HD1.out; case a2 => first | exact z2 | exact z3); (case a3 => have := LN.out; rw [HLD.out, List.length_nil]; omega); intro v1 w1 hO1 hg1; rw [List.nil_append] at hO1) | (refine step_appG tP rfl _ _ rfl w v1 (ps.drop i0) rfl ?a1 _ (ps.take i0) rfl ?a2 ?a3 ?_; (case a1 => exact hO1); (have z4 := HT1.out.ext hO1.2; case a2 => exact z4); (case a3 => have := HLD.out; have := HLT.out; have := LN.out; omega); intro v2 w2 hO2 hg2))
      all_goals
        have HTP := Lib.hid (show (ps.drop i0 ++ ps.take i0).Perm ps from (List.perm_append_comm).trans (List.Perm.of_eq (List.take_append_drop i0 ps)))
        have HTI := Lib.hid (show RdAll w2 (ps.drop i0 ++ ps.take i0) from fun p hp => (IA.out p (HTP.out.mem_iff.1 hp)).ext hO2.2)
        have HTR := Lib.hid hO2.rd
        have HTE := Lib.hid hO2.2
        clear hO1 hO2 hg1 hg2
        generalize ps.drop i0 ++ ps.take i0 = T at HTP HTI HTR
        have hTl := HTP.out.length_eq
        rw [← HN.out] at hTl
        obtain ⟨aT, cT, rfl, t1, t2⟩ := HTR.out.shape
        rw [hTl] at HTR t1 ⊢
        have HTL := Lib.hid hTl
        clear hTl
        obtain ⟨g5, o5, rfl, -⟩ := rd_P HTR.out 0 (by rw [HTL.out]; omega)
        have HTF := Lib.hid (rd_from HTR.out (show 1 ≤ n by omega))
        have q1 : (1 : Int) ≤ (n : Int) := by omega
        have q2 : (n : Int) ≤ (cT : Int) := by omega
        have q3 : (1 : Int) ≤ (cT : Int) := by omega
        have LT := Lib.hid (show T.length ≤ 1000000 by rw [HTL.out]; have := LN.out; omega)
        have ST := Lib.hid (show Small T from fun p hp => SA.out p (HTP.out.mem_iff.1 hp))
        unfold maxLen at t2
        clear hr hr2 hb0 hb1 hb2 hb3 hwr hwk
        have HRP := Lib.hid (show (rows ps).Perm (rows T) from (HTP.out.map P.r).symm)
        have X2 := HTE
        have X1 := Lib.hid (Ext.refl w)
        go_wp2_with fail
        refine (awake_law _).mono ?_; rintro e w3 ⟨rfl, hE3⟩
        have X3 := Lib.hid hE3
        clear hE3
        go_wp2_with fail
        refine (equal_prg ps T _ _ _ (HA.out.ext (X2.out.trans X3.out)) (HTR.out.ext X3.out) (IA.out.ext (X2.out.trans X3.out)) (HTI.out.ext X3.out) LA.out LT.out).mono ?_; rintro e w4 ⟨rfl, hE4⟩
        have X4 := Lib.hid hE4
        clear hE4
        rw [eqB_perm HRP.out]
        go_wp2_with fail
        refine (sort_prg ps _ _ (HA.out.ext (X2.out.trans (X3.out.trans X4.out))) (IA.out.ext (X2.out.trans (X3.out.trans X4.out))) LA.out SA.out).mono ?_; rintro e w5 ⟨v3, qa, rfl, s1, s2, s3, hE5⟩
        have X5 := Lib.hid hE5
        have S1 := Lib.hid s1
        have S2 := Lib.hid s2
        have S3 := Lib.hid s3
        clear s1 s2 s3
        clear hE5
        go_wp2_with fail
        refine (sort_prg T _ _ (HTR.out.ext (X3.out.trans (X4.out.trans X5.out))) (HTI.out.ext (X3.out.trans (X4.out.trans X5.out))) LT.out ST.out).mono ?_; rintro e w6 ⟨v4, qb, rfl, u1, u2, u3, hE6⟩
        have X6 := Lib.hid hE6
        have U1 := Lib.hid u1
        have U2 := Lib.hid u2
        have U3 := Lib.hid u3
        clear u1 u2 u3
        clear hE6
        go_wp2_with fail
        refine (sameRows_ref qa qb _ _ _ (S1.out.ext X6.out) U1.out (S2.out.ext X6.out) U2.out).mono ?_; rintro e w7 ⟨rfl, hE7⟩
        have X7 := Lib.hid hE7
        clear hE7
        have hs : srB (rows qa) (rows qb) = true := by unfold srB; rw [S3.out, U3.out]; simpa using sortR_eq.2 HRP.out
        rw [hs]
        clear hs
        have HTD := Lib.hid (show RdAll w2 (T.drop 1) from fun p hp => HTI.out p (List.mem_of_mem_drop hp))
        have HLD1 := Lib.hid (show (T.drop 1).length ≤ 1000000 by rw [List.length_drop]; have := LT.out; omega)
        by_cases hcT : cT = 1
        · have HTG := Lib.hid (show RdG w2 (.slice (some ⟨g5, o5, none⟩) 0 0) (T.drop 1) by have := HTF.out; rw [if_pos hcT, hcT, show n - 1 = 0 by omega] at this; exact this)
          subst hcT
          clear HTF
          go_wp2_with fail
          refine (equal_prg ps (T.drop 1) _ _ _ (HA.out.ext (X2.out.trans (X3.out.trans (X4.out.trans (X5.out.trans (X6.out.trans X7.out)))))) (HTG.out.ext (X3.out.trans (X4.out.trans (X5.out.trans (X6.out.trans X7.out))))) (IA.out.ext (X2.out.trans (X3.out.trans (X4.out.trans (X5.out.trans (X6.out.trans X7.out)))))) (HTD.out.ext (X3.out.trans (X4.out.trans (X5.out.trans (X6.out.trans X7.out))))) LA.out HLD1.out).mono ?_; rintro e w8 ⟨rfl, hE8⟩
          have X8 := Lib.hid hE8
          clear hE8
          have hs2 : eqB (rows ps) (rows (T.drop 1)) = false := eqB_len (by rw [rows_len, rows_len, List.length_drop, HTL.out, ← HN.out]; omega)
          rw [hs2]
          clear hs2
          go_wp2_with fail
          go_ret
          exact ⟨rfl, (X2.out.trans (X3.out.trans (X4.out.trans (X5.out.trans (X6.out.trans (X7.out.trans X8.out))))))⟩
        · have HTG := Lib.hid (show RdG w2 (.slice (some ⟨g5, o5 + 2, none⟩) (n - 1) (cT - 1)) (T.drop 1) by have := HTF.out; rw [if_neg hcT] at this; exact this)
          clear HTF
          go_wp2_with fail
          refine (equal_prg ps (T.drop 1) _ _ _ (HA.out.ext (X2.out.trans (X3.out.trans (X4.out.trans (X5.out.trans (X6.out.trans X7.out)))))) (HTG.out.ext (X3.out.trans (X4.out.trans (X5.out.trans (X6.out.trans X7.out))))) (IA.out.ext (X2.out.trans (X3.out.trans (X4.out.trans (X5.out.trans (X6.out.trans X7.out)))))) (HTD.out.ext (X3.out.trans (X4.out.trans (X5.out.trans (X6.out.trans X7.out))))) LA.out HLD1.out).mono ?_; rintro e w8 ⟨rfl, hE8⟩
          have X8 := Lib.hid hE8
          clear hE8
          have hs2 : eqB (rows ps) (rows (T.drop 1)) = false := eqB_len (by rw [rows_len, rows_len, List.length_drop, HTL.out, ← HN.out]; omega)
          rw [hs2]
          clear hs2
          go_wp2_with fail
          go_ret
          exact ⟨rfl, (X2.out.trans (X3.out.trans (X4.out.trans (X5.out.trans (X6.out.trans (X7.out.trans X8.out))))))⟩
end Go.Proofs.Ytohpmbabegpefaa
