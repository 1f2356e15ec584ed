/- The law Idempotent. -/
import Derived.Test.YtcankdikbnllkaaGreatZz38
import Derived.Test.YtcankdikbnllkaaGreatZz45
namespace Go.Proofs.YtcankdikbnllkaaGreat
open Go.ChangeShapes Go.WideShapes Go.ChangeAt Go.RowKit

theorem pick_any (i n : Nat) (w : World) (hi : i ≤ 1000000) (hn : n ≤ 1000000) : Calls Tryz.prog 29 #[.int .i64 i, .int .i64 n] w fun e w' => w = w' ∧ ∃ m : Nat, m ≤ n ∧ e = .returned (.int .i64 (m : Int)) := by
  by_cases h0 : n = 0
  · subst h0
    exact (pick_zero i w).mono fun _ _ ⟨a, b⟩ => ⟨a, 0, Nat.le_refl _, b⟩
  · exact (pick_prg i n w hi (by omega) hn).mono fun _ _ ⟨a, b⟩ => ⟨a, i % n, Nat.le_of_lt (Nat.mod_lt _ (by omega)), b⟩
set_option maxHeartbeats 8000000 in
set_option maxRecDepth 100000 in
theorem law_TupleIdempotent (x : List Five) (i : Int) (vx : Value) (w : World) (rx : RdG w vx x) (kx : ∀ z ∈ x, z.ok) (i0 : 0 ≤ i) (i1 : i ≤ 255) : Calls Tryz.prog 7 #[vx, .int .u8 i] w fun e w' => e = .returned (.bool true) ∧ Ext w w' := by
  have HX := Lib.hid rx
  have KX := Lib.hid kx
  obtain ⟨j, rfl⟩ : ∃ j : Nat, i = (j : Int) := ⟨i.toNat, by omega⟩
  have wi := wrapI (j : Int) (by omega) (by omega)
  clear rx kx
  go_enter Tryz.func7, Tryz.ntmps7
  go_wp2_with fail
  refine (built 14 (by omega) x vx w HX.out KX.out).mono ?_; rintro e w1 ⟨v1, ts, rfl, o1, i1, s1, n1⟩
  have HR := Lib.hid o1.rd
  have HE1 := Lib.hid o1.2
  have HI := Lib.hid i1
  have HS := Lib.hid s1
  have HN := Lib.hid n1
  have hcase := o1.1.2
  clear o1 i1 s1 n1
  rcases hcase with ⟨rfl, h0⟩ | ⟨g, cap, cur, rfl, _, _, hnc, hcm, _⟩
  · obtain rfl : ts = [] := List.eq_nil_of_length_eq_zero h0
    go_wp2_with fail
    refine (pick_any j 0 w1 (by omega) (by omega)).mono ?_; rintro e w2 ⟨rfl, m, hm, rfl⟩
    obtain rfl : m = 0 := by omega
    go_wp2_with fail
    refine (norm_prg [] _ _ HR.out HI.out (by simp) HS.out).mono ?_
    rintro e w3 ⟨v3, ns, rfl, r1, r2, r3, r4, r5⟩
    have HM1 := Lib.hid r1
    have HM2 := Lib.hid r2
    have HM3 := Lib.hid r3
    have HM4 := Lib.hid r4
    have HE3 := Lib.hid r5
    clear r1 r2 r3 r4 r5
    obtain ⟨m, hm0⟩ : ∃ m : Nat, m = 0 := ⟨0, rfl⟩
    have HRD := Lib.hid (show RdG w3 (.slice none 0 0) (([] : List TP).drop m) by rw [List.drop_nil]; exact rdG_nil _)
    have HRT := Lib.hid (show RdG w3 (.slice none 0 0) (([] : List TP).take m) by rw [List.take_nil]; exact rdG_nil _)
    have HDL := Lib.hid (show (([] : List TP).drop m).length + (([] : List TP).take m).length ≤ 14 by simp)
    obtain ⟨ts, hts⟩ : ∃ ts : List TP, ts = [] := ⟨_, rfl⟩
    rw [← hts] at HRD HRT HDL HR HI HS HM3 HM4 HN
    clear hts hm0
    go_wp2_with fail
    go_region_held3 (fun _ => True) (trivial)
      (first | (refine step_appGL tT rfl _ _ rfl w3 (.slice none 0 0) [] rfl ?a1 _ (ts.drop m) rfl ?a2 ?a3 ?_; (case a1 => exact OwnG.nil _ _ _ (by first | exact Ext.refl w3 | exact (Ext.refl w3).drew)); (case a2 => exact HRD.out); (case a3 => have := HDL.out; simp only [List.length_nil]; omega); intro v4 w4 hO4 hg4 hl4; have HO4 := Lib.hid hO4; clear hO4 hg4 hl4) | (refine step_appGL tT rfl _ _ rfl w3 v4 ([] ++ ts.drop m) rfl ?a1 _ (ts.take m) rfl ?a2 ?a3 ?_; (case a1 => exact HO4.out); (case a2 => exact HRT.out.ext HO4.out.2); (case a3 => have := HDL.out; simp only [List.nil_append]; omega); intro v5 w5 hO5 hg5 hl5; have HO5 := Lib.hid hO5; clear hO5 hg5 hl5))
    all_goals
      have hO6 : OwnG tT.e w3 w5 v5 (ts.drop m ++ ts.take m) := by simpa using HO5.out
      have HTN := Lib.hid (hO6.rd)
      have HE4 := Lib.hid (hO6.2)
      have HTI := Lib.hid (show RdTs w5 (ts.drop m ++ ts.take m) from fun p hp => (HI.out p (by
        rcases List.mem_append.1 hp with hp | hp
        · exact List.mem_of_mem_drop hp
        · exact List.mem_of_mem_take hp)).ext (HE3.out.trans hO6.2))
      have HPM := Lib.hid (show (ts.drop m ++ ts.take m).Perm ts from (List.perm_append_comm.trans (List.Perm.of_eq (List.take_append_drop m ts))))
      have HTS := Lib.hid (show SmT (ts.drop m ++ ts.take m) from fun p hp => HS.out p (HPM.out.mem_iff.1 hp))
      clear hO6
      go_wp2_with fail
      refine (awake_law _).mono ?_; rintro e w6 ⟨rfl, hE6⟩
      have HE6 := Lib.hid (HE4.out.trans hE6)
      have HE56 := Lib.hid hE6
      clear hE6
      go_wp2_with fail
      refine (norm_prg ns v3 w6 (HM1.out.ext HE6.out) (HM2.out.ext HE6.out) (by have := HM4.out; have := HN.out; omega) (HS.out.nf HM3.out)).mono ?_
      rintro e w7 ⟨v7, ms, rfl, r1, r2, r3, _, r5⟩
      have HK1 := Lib.hid r1
      have HK2 := Lib.hid r2
      have HK3 := Lib.hid r3
      have HE7 := Lib.hid r5
      clear r1 r2 r3 r5
      go_wp2_with fail
      refine (sameT_ref ms ns v7 v3 w7 HK1.out (HM1.out.ext (HE6.out.trans HE7.out)) HK2.out (HM2.out.ext (HE6.out.trans HE7.out))).mono ?_
      rintro e w8 ⟨rfl, hE8⟩
      have HT := Lib.hid (show tuB (tus ms) (tus ns) = true by unfold tuB; rw [decide_eq_true_iff]; exact HK3.out.unique HM3.out.self)
      rw [HT.out]
      have HE8 := Lib.hid (HE7.out.trans hE8)
      clear hE8
      go_wp2_with fail
      refine (norm_prg (ts.drop m ++ ts.take m) _ w8 (HTN.out.ext (HE56.out.trans HE8.out)) (HTI.out.ext (HE56.out.trans HE8.out)) (by have := HPM.out.length_eq; have := HN.out; omega) HTS.out).mono ?_
      rintro e w9 ⟨v9, us, rfl, r1, r2, r3, _, r5⟩
      have HU1 := Lib.hid r1
      have HU2 := Lib.hid r2
      have HU3 := Lib.hid r3
      have HE9 := Lib.hid r5
      clear r1 r2 r3 r5
      go_wp2_with fail
      refine (sameT_ref us ns v9 v3 w9 HU1.out (HM1.out.ext (HE6.out.trans (HE8.out.trans HE9.out))) HU2.out (HM2.out.ext (HE6.out.trans (HE8.out.trans HE9.out)))).mono ?_
      rintro e w10 ⟨rfl, hE10⟩
      have HT2 := Lib.hid (show tuB (tus us) (tus ns) = true by
        unfold tuB
        rw [decide_eq_true_iff]
        exact (nf_iff HU3.out HM3.out).2 fun r t => ats_perm (HPM.out.map _) r t)
      rw [HT2.out]
      have HE10 := Lib.hid (HE8.out.trans (HE9.out.trans hE10))
      clear hE10
      go_wp2_with fail
      refine (equiv_prg ns ts v3 (.slice none 0 0) w10 (HM1.out.ext (HE6.out.trans HE10.out)) (HR.out.ext (HE3.out.trans (HE6.out.trans HE10.out))) (HM2.out.ext (HE6.out.trans HE10.out)) (HI.out.ext (HE3.out.trans (HE6.out.trans HE10.out))) (by have := HM4.out; have := HN.out; omega) (by have := HN.out; omega)).mono ?_
      rintro e w11 ⟨d, rfl, hd, hE11⟩
      obtain rfl : d = true := hd.2 (fun r t => HM3.out.cnt r t)
      go_wp2_with fail
      go_ret
      exact ⟨rfl, (HE1.out.trans (HE3.out.trans (HE6.out.trans HE10.out))).trans hE11⟩
  · obtain ⟨n, hn⟩ : ∃ z, z = ts.length := ⟨_, rfl⟩
    have HNN := Lib.hid hn
    unfold maxLen at hcm
    rw [← hn] at hnc HR
    simp only [← hn]
    have hn14 : n ≤ 14 := by have := HN.out; omega
    clear hn
    go_wp2_with fail
    refine (pick_any j n w1 (by omega) (by omega)).mono ?_; rintro e w2 ⟨rfl, m, hm, rfl⟩
    have hm0 : (0 : Int) ≤ (m : Int) := by omega
    have hm1 : (m : Int) ≤ (n : Int) := by omega
    have hm2 : (m : Int) ≤ (cap : Int) := by omega
    have hm3 : (n : Int) ≤ (cap : Int) := by omega
    go_wp2_with fail
    refine (norm_prg ts _ _ HR.out HI.out (by have := HNN.out; omega) HS.out).mono ?_
    rintro e w3 ⟨v3, ns, rfl, r1, r2, r3, r4, r5⟩
    have HM1 := Lib.hid r1
    have HM2 := Lib.hid r2
    have HM3 := Lib.hid r3
    have HM4 := Lib.hid r4
    have HE3 := Lib.hid r5
    clear r1 r2 r3 r4 r5
    by_cases hcc : cap = m
    · subst hcc
      have hcn : cap = n := by omega
      subst hcn
      have hrd := rd_fromT (HR.out.ext HE3.out) hm
      simp only [Nat.zero_add, if_true, Nat.sub_self] at hrd
      have HRD := Lib.hid hrd
      clear hrd
      have HRT := Lib.hid ((HR.out.ext HE3.out).take cap (by rw [← HNN.out]; exact hm))
      have HDL := Lib.hid (show (ts.drop cap).length + (ts.take cap).length ≤ 14 by rw [List.length_drop, List.length_take]; have := HNN.out; omega)
      go_wp2_with fail
      go_region_held3 (fun _ => True) (trivial)
        (first | (refine step_appGL tT rfl _ _ rfl w3 (.slice none 0 0) [] rfl ?a1 _ (ts.drop cap) rfl ?a2 ?a3 ?_; (case a1 => exact OwnG.nil _ _ _ (by first | exact Ext.refl w3 | exact (Ext.refl w3).drew)); (case a2 => exact HRD.out); (case a3 => have := HDL.out; simp only [List.length_nil]; omega); intro v4 w4 hO4 hg4 hl4; have HO4 := Lib.hid hO4; clear hO4 hg4 hl4) | (refine step_appGL tT rfl _ _ rfl w3 v4 ([] ++ ts.drop cap) rfl ?a1 _ (ts.take cap) rfl ?a2 ?a3 ?_; (case a1 => exact HO4.out); (case a2 => exact HRT.out.ext HO4.out.2); (case a3 => have := HDL.out; simp only [List.nil_append]; omega); intro v5 w5 hO5 hg5 hl5; have HO5 := Lib.hid hO5; clear hO5 hg5 hl5))
      all_goals
        have hO6 : OwnG tT.e w3 w5 v5 (ts.drop cap ++ ts.take cap) := by simpa using HO5.out
        have HTN := Lib.hid (hO6.rd)
        have HE4 := Lib.hid (hO6.2)
        have HTI := Lib.hid (show RdTs w5 (ts.drop cap ++ ts.take cap) from fun p hp => (HI.out p (by
          rcases List.mem_append.1 hp with hp | hp
          · exact List.mem_of_mem_drop hp
          · exact List.mem_of_mem_take hp)).ext (HE3.out.trans hO6.2))
        have HPM := Lib.hid (show (ts.drop cap ++ ts.take cap).Perm ts from (List.perm_append_comm.trans (List.Perm.of_eq (List.take_append_drop cap ts))))
        have HTS := Lib.hid (show SmT (ts.drop cap ++ ts.take cap) from fun p hp => HS.out p (HPM.out.mem_iff.1 hp))
        clear hO6
        go_wp2_with fail
        refine (awake_law _).mono ?_; rintro e w6 ⟨rfl, hE6⟩
        have HE6 := Lib.hid (HE4.out.trans hE6)
        have HE56 := Lib.hid hE6
        clear hE6
        go_wp2_with fail
        refine (norm_prg ns v3 w6 (HM1.out.ext HE6.out) (HM2.out.ext HE6.out) (by have := HM4.out; have := HN.out; omega) (HS.out.nf HM3.out)).mono ?_
        rintro e w7 ⟨v7, ms, rfl, r1, r2, r3, _, r5⟩
        have HK1 := Lib.hid r1
        have HK2 := Lib.hid r2
        have HK3 := Lib.hid r3
        have HE7 := Lib.hid r5
        clear r1 r2 r3 r5
        go_wp2_with fail
        refine (sameT_ref ms ns v7 v3 w7 HK1.out (HM1.out.ext (HE6.out.trans HE7.out)) HK2.out (HM2.out.ext (HE6.out.trans HE7.out))).mono ?_
        rintro e w8 ⟨rfl, hE8⟩
        have HT := Lib.hid (show tuB (tus ms) (tus ns) = true by unfold tuB; rw [decide_eq_true_iff]; exact HK3.out.unique HM3.out.self)
        rw [HT.out]
        have HE8 := Lib.hid (HE7.out.trans hE8)
        clear hE8
        go_wp2_with fail
        refine (norm_prg (ts.drop cap ++ ts.take cap) _ w8 (HTN.out.ext (HE56.out.trans HE8.out)) (HTI.out.ext (HE56.out.trans HE8.out)) (by have := HPM.out.length_eq; have := HN.out; omega) HTS.out).mono ?_
        rintro e w9 ⟨v9, us, rfl, r1, r2, r3, _, r5⟩
        have HU1 := Lib.hid r1
        have HU2 := Lib.hid r2
        have HU3 := Lib.hid r3
        have HE9 := Lib.hid r5
        clear r1 r2 r3 r5
        go_wp2_with fail
        refine (sameT_ref us ns v9 v3 w9 HU1.out (HM1.out.ext (HE6.out.trans (HE8.out.trans HE9.out))) HU2.out (HM2.out.ext (HE6.out.trans (HE8.out.trans HE9.out)))).mono ?_
        rintro e w10 ⟨rfl, hE10⟩
        have HT2 := Lib.hid (show tuB (tus us) (tus ns) = true by
          unfold tuB
          rw [decide_eq_true_iff]
          exact (nf_iff HU3.out HM3.out).2 fun r t => ats_perm (HPM.out.map _) r t)
        rw [HT2.out]
        have HE10 := Lib.hid (HE8.out.trans (HE9.out.trans hE10))
        clear hE10
        go_wp2_with fail
        refine (equiv_prg ns ts v3 (.slice (some ⟨g, 0, none⟩) cap cap) w10 (HM1.out.ext (HE6.out.trans HE10.out)) (HR.out.ext (HE3.out.trans (HE6.out.trans HE10.out))) (HM2.out.ext (HE6.out.trans HE10.out)) (HI.out.ext (HE3.out.trans (HE6.out.trans HE10.out))) (by have := HM4.out; have := HN.out; omega) (by have := HN.out; omega)).mono ?_
        rintro e w11 ⟨d, rfl, hd, hE11⟩
        obtain rfl : d = true := hd.2 (fun r t => HM3.out.cnt r t)
        go_wp2_with fail
        go_ret
        exact ⟨rfl, (HE1.out.trans (HE3.out.trans (HE6.out.trans HE10.out))).trans hE11⟩
    · have hcc2 : ¬ (cap : Nat) = m := hcc
      have hrd := rd_fromT (HR.out.ext HE3.out) hm
      rw [if_neg hcc] at hrd
      simp only [Nat.zero_add] at hrd
      have HRD := Lib.hid hrd
      clear hrd
      have HRT := Lib.hid ((HR.out.ext HE3.out).take m (by rw [← HNN.out]; exact hm))
      have HDL := Lib.hid (show (ts.drop m).length + (ts.take m).length ≤ 14 by rw [List.length_drop, List.length_take]; have := HNN.out; omega)
      go_wp2_with fail
      go_region_held3 (fun _ => True) (trivial)
        (first | (refine step_appGL tT rfl _ _ rfl w3 (.slice none 0 0) [] rfl ?a1 _ (ts.drop m) rfl ?a2 ?a3 ?_; (case a1 => exact OwnG.nil _ _ _ (by first | exact Ext.refl w3 | exact (Ext.refl w3).drew)); (case a2 => exact HRD.out); (case a3 => have := HDL.out; simp only [List.length_nil]; omega); intro v4 w4 hO4 hg4 hl4; have HO4 := Lib.hid hO4; clear hO4 hg4 hl4) | (refine step_appGL tT rfl _ _ rfl w3 v4 ([] ++ ts.drop m) rfl ?a1 _ (ts.take m) rfl ?a2 ?a3 ?_; (case a1 => exact HO4.out); (case a2 => exact HRT.out.ext HO4.out.2); (case a3 => have := HDL.out; simp only [List.nil_append]; omega); intro v5 w5 hO5 hg5 hl5; have HO5 := Lib.hid hO5; clear hO5 hg5 hl5))
      all_goals
        have hO6 : OwnG tT.e w3 w5 v5 (ts.drop m ++ ts.take m) := by simpa using HO5.out
        have HTN := Lib.hid (hO6.rd)
        have HE4 := Lib.hid (hO6.2)
        have HTI := Lib.hid (show RdTs w5 (ts.drop m ++ ts.take m) from fun p hp => (HI.out p (by
          rcases List.mem_append.1 hp with hp | hp
          · exact List.mem_of_mem_drop hp
          · exact List.mem_of_mem_take hp)).ext (HE3.out.trans hO6.2))
        have HPM := Lib.hid (show (ts.drop m ++ ts.take m).Perm ts from (List.perm_append_comm.trans (List.Perm.of_eq (List.take_append_drop m ts))))
        have HTS := Lib.hid (show SmT (ts.drop m ++ ts.take m) from fun p hp => HS.out p (HPM.out.mem_iff.1 hp))
        clear hO6
        go_wp2_with fail
        refine (awake_law _).mono ?_; rintro e w6 ⟨rfl, hE6⟩
        have HE6 := Lib.hid (HE4.out.trans hE6)
        have HE56 := Lib.hid hE6
        clear hE6
        go_wp2_with fail
        refine (norm_prg ns v3 w6 (HM1.out.ext HE6.out) (HM2.out.ext HE6.out) (by have := HM4.out; have := HN.out; omega) (HS.out.nf HM3.out)).mono ?_
        rintro e w7 ⟨v7, ms, rfl, r1, r2, r3, _, r5⟩
        have HK1 := Lib.hid r1
        have HK2 := Lib.hid r2
        have HK3 := Lib.hid r3
        have HE7 := Lib.hid r5
        clear r1 r2 r3 r5
        go_wp2_with fail
        refine (sameT_ref ms ns v7 v3 w7 HK1.out (HM1.out.ext (HE6.out.trans HE7.out)) HK2.out (HM2.out.ext (HE6.out.trans HE7.out))).mono ?_
        rintro e w8 ⟨rfl, hE8⟩
        have HT := Lib.hid (show tuB (tus ms) (tus ns) = true by unfold tuB; rw [decide_eq_true_iff]; exact HK3.out.unique HM3.out.self)
        rw [HT.out]
        have HE8 := Lib.hid (HE7.out.trans hE8)
        clear hE8
        go_wp2_with fail
        refine (norm_prg (ts.drop m ++ ts.take m) _ w8 (HTN.out.ext (HE56.out.trans HE8.out)) (HTI.out.ext (HE56.out.trans HE8.out)) (by have := HPM.out.length_eq; have := HN.out; omega) HTS.out).mono ?_
        rintro e w9 ⟨v9, us, rfl, r1, r2, r3, _, r5⟩
        have HU1 := Lib.hid r1
        have HU2 := Lib.hid r2
        have HU3 := Lib.hid r3
        have HE9 := Lib.hid r5
        clear r1 r2 r3 r5
        go_wp2_with fail
        refine (sameT_ref us ns v9 v3 w9 HU1.out (HM1.out.ext (HE6.out.trans (HE8.out.trans HE9.out))) HU2.out (HM2.out.ext (HE6.out.trans (HE8.out.trans HE9.out)))).mono ?_
        rintro e w10 ⟨rfl, hE10⟩
        have HT2 := Lib.hid (show tuB (tus us) (tus ns) = true by
          unfold tuB
          rw [decide_eq_true_iff]
          exact (nf_iff HU3.out HM3.out).2 fun r t => ats_perm (HPM.out.map _) r t)
        rw [HT2.out]
        have HE10 := Lib.hid (HE8.out.trans (HE9.out.trans hE10))
        clear hE10
        go_wp2_with fail
        refine (equiv_prg ns ts v3 (.slice (some ⟨g, 0, none⟩) n cap) w10 (HM1.out.ext (HE6.out.trans HE10.out)) (HR.out.ext (HE3.out.trans (HE6.out.trans HE10.out))) (HM2.out.ext (HE6.out.trans HE10.out)) (HI.out.ext (HE3.out.trans (HE6.out.trans HE10.out))) (by have := HM4.out; have := HN.out; omega) (by have := HN.out; omega)).mono ?_
        rintro e w11 ⟨d, rfl, hd, hE11⟩
        obtain rfl : d = true := hd.2 (fun r t => HM3.out.cnt r t)
        go_wp2_with fail
        go_ret
        exact ⟨rfl, (HE1.out.trans (HE3.out.trans (HE6.out.trans HE10.out))).trans hE11⟩
end Go.Proofs.YtcankdikbnllkaaGreat
