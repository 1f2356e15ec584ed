/- The laws BagLineage and BagSort. -/
import Derived.Test.YtohpmbabegpefaaAw8
import Derived.Test.YtohpmbabegpefaaFw8
import Derived.Test.YtohpmbabegpefaaRp8
namespace Go.Proofs.Ytohpmbabegpefaa
open Go.ChangeShapes Go.WideShapes Go.ChangeAt Go.RowKit

/-- two lineages merged -/
def mlL (a b : List Int) : List Int := Lib.compact ((a ++ b).mergeSort fun x y => decide (x ≤ y))
theorem mlL_asc (a b : List Int) : Asc (mlL a b) := (sort_cut (a ++ b)).1
theorem mlL_mem (a b : List Int) (c : Int) : c ∈ mlL a b ↔ c ∈ a ∨ c ∈ b := ((sort_cut (a ++ b)).2 c).trans List.mem_append
theorem mlL_len (a b : List Int) : (mlL a b).length ≤ a.length + b.length := Nat.le_trans (comp_len _) (by rw [List.length_mergeSort, List.length_append]; exact Nat.le_refl _)
theorem mlL_comm (a b : List Int) : mlL b a = mlL a b := asc_unique _ _ (mlL_asc _ _) (mlL_asc _ _) fun c => by rw [mlL_mem, mlL_mem]; exact Or.comm
theorem mlL_assoc (a b c : List Int) : mlL a (mlL b c) = mlL (mlL a b) c := asc_unique _ _ (mlL_asc _ _) (mlL_asc _ _) fun x => by rw [mlL_mem, mlL_mem, mlL_mem, mlL_mem]; exact or_assoc.symm
theorem mlL_idem (a b : List Int) : mlL (mlL a b) (mlL a b) = mlL a b := asc_unique _ _ (mlL_asc _ _) (mlL_asc _ _) fun x => by rw [mlL_mem]; exact or_self_iff
theorem mlq (a b : List Int) (va vb : Value) (w : World) (ha : RdG w va a) (hb : RdG w vb b) (hl : a.length + b.length ≤ 1000) : Calls Try.prog 21 #[va, vb] w fun e w' => ∃ v, e = .returned v ∧ RdG w' v (mlL a b) ∧ Ext w w' :=
  (ml_prg a b va vb w ha hb hl).mono fun _ _ ⟨v, cs, he, hr, hE, hA, hM, _⟩ => ⟨v, he, by
    rw [show mlL a b = cs from asc_unique _ _ (mlL_asc a b) hA fun c => by rw [mlL_mem, hM]]
    exact hr, hE⟩
set_option maxHeartbeats 8000000 in
theorem law_BagLineage (a b c : List Int) (va vb vc : Value) (w : World) (ra : RdG w va a) (rb : RdG w vb b) (rc : RdG w vc c) : Calls Try.prog 6 #[va, vb, vc] w fun e w' => e = .returned (.bool true) ∧ Ext w w' := by
  obtain ⟨aa, ca, rfl, _, _⟩ := ra.shape
  obtain ⟨ab, cb, rfl, _, _⟩ := rb.shape
  obtain ⟨ac, cc, rfl, _, _⟩ := rc.shape
  have HA := Lib.hid ra
  have HB := Lib.hid rb
  have HC := Lib.hid rc
  clear ra rb rc
  obtain ⟨n1, e1⟩ : ∃ n, n = a.length := ⟨_, rfl⟩
  obtain ⟨n2, e2⟩ : ∃ n, n = b.length := ⟨_, rfl⟩
  obtain ⟨n3, e3⟩ : ∃ n, n = c.length := ⟨_, rfl⟩
  rw [← e1] at HA ⊢
  rw [← e2] at HB ⊢
  rw [← e3] at HC ⊢
  have HN1 := Lib.hid e1
  have HN2 := Lib.hid e2
  have HN3 := Lib.hid e3
  clear e1 e2 e3
  by_cases h1 : n1 ≤ 40
  · have i1 : ¬ (40 : Int) < (n1 : Int) := by omega
    by_cases h2 : n2 ≤ 40
    · have i2 : ¬ (40 : Int) < (n2 : Int) := by omega
      by_cases h3 : n3 ≤ 40
      · have i3 : ¬ (40 : Int) < (n3 : Int) := by omega
        have L1 := Lib.hid (show a.length ≤ 40 ∧ b.length ≤ 40 ∧ c.length ≤ 40 by rw [← HN1.out, ← HN2.out, ← HN3.out]; exact ⟨h1, h2, h3⟩)
        clear h1 h2 h3
        go_enter Try.func6, Try.ntmps6
        go_wp2_with fail
        refine (mlq (a) (b) _ _ _ HA.out HB.out (by have := L1.out; have := mlL_len a b; have := mlL_len b c; omega)).mono ?_; rintro e w1 ⟨vab, rfl, hrab, hE1⟩
        have X1 := Lib.hid hE1
        have Hab := Lib.hid hrab
        clear hrab
        clear hE1
        go_wp2_with fail
        refine (awake_law _).mono ?_; rintro e w2 ⟨rfl, hE2⟩
        have X2 := Lib.hid hE2
        clear hE2
        go_wp2_with fail
        refine (mlq (b) (a) _ _ _ (HB.out.ext (X1.out.trans X2.out)) (HA.out.ext (X1.out.trans X2.out)) (by have := L1.out; have := mlL_len a b; have := mlL_len b c; omega)).mono ?_; rintro e w3 ⟨vba, rfl, hrba, hE3⟩
        have X3 := Lib.hid hE3
        have Hba := Lib.hid hrba
        clear hrba
        clear hE3
        go_wp2_with fail
        refine (same_ints (mlL a b) _ _ _ (Hab.out.ext (X2.out.trans X3.out)) (by have := Hba.out; rw [mlL_comm a b] at this; exact this)).mono ?_; rintro e w4 ⟨rfl, hE4⟩
        have X4 := Lib.hid hE4
        clear hE4
        go_wp2_with fail
        refine (mlq (mlL a b) (c) _ _ _ (Hab.out.ext (X2.out.trans (X3.out.trans X4.out))) (HC.out.ext (X1.out.trans (X2.out.trans (X3.out.trans X4.out)))) (by have := L1.out; have := mlL_len a b; have := mlL_len b c; omega)).mono ?_; rintro e w5 ⟨vx, rfl, hrx, hE5⟩
        have X5 := Lib.hid hE5
        have Hx := Lib.hid hrx
        clear hrx
        clear hE5
        go_wp2_with fail
        refine (mlq (b) (c) _ _ _ (HB.out.ext (X1.out.trans (X2.out.trans (X3.out.trans (X4.out.trans X5.out))))) (HC.out.ext (X1.out.trans (X2.out.trans (X3.out.trans (X4.out.trans X5.out))))) (by have := L1.out; have := mlL_len a b; have := mlL_len b c; omega)).mono ?_; rintro e w6 ⟨vbc, rfl, hrbc, hE6⟩
        have X6 := Lib.hid hE6
        have Hbc := Lib.hid hrbc
        clear hrbc
        clear hE6
        go_wp2_with fail
        refine (mlq (a) (mlL b c) _ _ _ (HA.out.ext (X1.out.trans (X2.out.trans (X3.out.trans (X4.out.trans (X5.out.trans X6.out)))))) Hbc.out (by have := L1.out; have := mlL_len a b; have := mlL_len b c; omega)).mono ?_; rintro e w7 ⟨vy, rfl, hry, hE7⟩
        have X7 := Lib.hid hE7
        have Hy := Lib.hid hry
        clear hry
        clear hE7
        go_wp2_with fail
        refine (same_ints (mlL (mlL a b) c) _ _ _ (Hx.out.ext (X6.out.trans X7.out)) (by have := Hy.out; rw [mlL_assoc] at this; exact this)).mono ?_; rintro e w8 ⟨rfl, hE8⟩
        have X8 := Lib.hid hE8
        clear hE8
        go_wp2_with fail
        refine (mlq (mlL a b) (mlL a b) _ _ _ (Hab.out.ext (X2.out.trans (X3.out.trans (X4.out.trans (X5.out.trans (X6.out.trans (X7.out.trans X8.out))))))) (Hab.out.ext (X2.out.trans (X3.out.trans (X4.out.trans (X5.out.trans (X6.out.trans (X7.out.trans X8.out))))))) (by have := L1.out; have := mlL_len a b; have := mlL_len b c; omega)).mono ?_; rintro e w9 ⟨vz, rfl, hrz, hE9⟩
        have X9 := Lib.hid hE9
        have Hz := Lib.hid hrz
        clear hrz
        clear hE9
        go_wp2_with fail
        refine (same_ints (mlL a b) _ _ _ (by have := Hz.out; rw [mlL_idem] at this; exact this) (Hab.out.ext (X2.out.trans (X3.out.trans (X4.out.trans (X5.out.trans (X6.out.trans (X7.out.trans (X8.out.trans X9.out))))))))).mono ?_; rintro e w10 ⟨rfl, hE10⟩
        have X10 := Lib.hid hE10
        clear hE10
        go_wp2_with fail
        go_ret
        exact ⟨rfl, (X1.out.trans (X2.out.trans (X3.out.trans (X4.out.trans (X5.out.trans (X6.out.trans (X7.out.trans (X8.out.trans (X9.out.trans X10.out)))))))))⟩
      · have i9 : (40 : Int) < (n3 : Int) := by omega
        go_enter Try.func6, Try.ntmps6
        go_wp2_with fail
        refine (awake_law _).mono ?_; rintro e w1 ⟨rfl, hE1⟩
        have X1 := Lib.hid hE1
        clear hE1
        go_wp2_with fail
        go_ret
        exact ⟨rfl, X1.out⟩
    · have i9 : (40 : Int) < (n2 : Int) := by omega
      go_enter Try.func6, Try.ntmps6
      go_wp2_with fail
      refine (awake_law _).mono ?_; rintro e w1 ⟨rfl, hE1⟩
      have X1 := Lib.hid hE1
      clear hE1
      go_wp2_with fail
      go_ret
      exact ⟨rfl, X1.out⟩
  · have i9 : (40 : Int) < (n1 : Int) := by omega
    go_enter Try.func6, Try.ntmps6
    go_wp2_with fail
    refine (awake_law _).mono ?_; rintro e w1 ⟨rfl, hE1⟩
    have X1 := Lib.hid hE1
    clear hE1
    go_wp2_with fail
    go_ret
    exact ⟨rfl, X1.out⟩
set_option maxHeartbeats 8000000 in
theorem law_BagSort (ps qs : List P) (va vb : Value) (w : World) (ra : RdG w va ps) (rb : RdG w vb qs) (ia : RdAll w ps) (ib : RdAll w qs) : Calls Try.prog 3 #[va, vb] w fun e w' => e = .returned (.bool true) ∧ Ext w w' := by
  have HA := Lib.hid ra
  have HB := Lib.hid rb
  have IA := Lib.hid ia
  have IB := Lib.hid ib
  clear ra rb ia ib
  go_enter Try.func3, Try.ntmps3
  go_wp2_with fail
  refine (few_law ps 40 va w HA.out IA.out (by decide) (by decide)).mono ?_; rintro e w0 ⟨f1, rfl, hf1, rfl⟩
  cases f1 with
  | false =>
    clear hf1
    go_wp2_with fail
    refine (awake_law _).mono ?_; rintro e w1 ⟨rfl, hE1⟩
    have X1 := Lib.hid hE1
    clear hE1
    go_wp2_with fail
    go_ret
    exact ⟨rfl, X1.out⟩
  | true =>
    have F1 := Lib.hid (hf1 rfl)
    clear hf1
    go_wp2_with fail
    refine (few_law qs 40 vb w HB.out IB.out (by decide) (by decide)).mono ?_; rintro e w0 ⟨f2, rfl, hf2, rfl⟩
    cases f2 with
    | false =>
      clear hf2
      go_wp2_with fail
      refine (awake_law _).mono ?_; rintro e w1 ⟨rfl, hE1⟩
      have X1 := Lib.hid hE1
      clear hE1
      go_wp2_with fail
      go_ret
      exact ⟨rfl, X1.out⟩
    | true =>
      have F2 := Lib.hid (hf2 rfl)
      have LA := Lib.hid (show ps.length ≤ 1000000 by have := F1.out.1; omega)
      have LB := Lib.hid (show qs.length ≤ 1000000 by have := F2.out.1; omega)
      have SA := Lib.hid (show Small ps from fun p hp => by have := F1.out.2 p hp; omega)
      clear hf2
      go_wp2_with fail
      refine (awake_law _).mono ?_; rintro e w1 ⟨rfl, hE1⟩
      have X1 := Lib.hid hE1
      clear hE1
      go_wp2_with fail
      refine (sort_prg ps _ _ (HA.out.ext X1.out) (IA.out.ext X1.out) LA.out SA.out).mono ?_; rintro e w2 ⟨v1, qa, rfl, s1, s2, s3, hE2⟩
      have X2 := Lib.hid hE2
      have S1 := Lib.hid s1
      have S2 := Lib.hid s2
      have S3 := Lib.hid s3
      clear s1 s2 s3
      clear hE2
      go_wp2_with fail
      refine (sort_ref _ ps _ _ (HA.out.ext (X1.out.trans X2.out)) (IA.out.ext (X1.out.trans X2.out)) (Nat.le_refl _) LA.out).mono ?_; rintro e w3 ⟨v2, qb, rfl, hO, hp, hr⟩
      have X3 := Lib.hid hO.2
      have T1 := Lib.hid hO.rd
      have T3 := Lib.hid hr
      have TP := Lib.hid hp
      clear hO hp hr
      have TI := Lib.hid (show RdAll w3 qb from fun p hp => (IA.out p (TP.out.mem_iff.1 hp)).ext (X1.out.trans (X2.out.trans X3.out)))
      go_wp2_with fail
      refine (sameRows_ref qa qb _ _ _ (S1.out.ext X3.out) T1.out (S2.out.ext X3.out) TI.out).mono ?_; rintro e w4 ⟨rfl, hE4⟩
      have X4 := Lib.hid hE4
      clear hE4
      have hs : srB (rows qa) (rows qb) = true := by unfold srB; rw [S3.out, T3.out]; simp
      rw [hs]
      clear hs
      go_wp2_with fail
      refine (equal_prg ps qs _ _ _ (HA.out.ext (X1.out.trans (X2.out.trans (X3.out.trans X4.out)))) (HB.out.ext (X1.out.trans (X2.out.trans (X3.out.trans X4.out)))) (IA.out.ext (X1.out.trans (X2.out.trans (X3.out.trans X4.out)))) (IB.out.ext (X1.out.trans (X2.out.trans (X3.out.trans X4.out)))) LA.out LB.out).mono ?_; rintro e w5 ⟨rfl, hE5⟩
      have X5 := Lib.hid hE5
      clear hE5
      go_wp2_with fail
      refine (equal_ref ps qs _ _ _ (HA.out.ext (X1.out.trans (X2.out.trans (X3.out.trans (X4.out.trans X5.out))))) (HB.out.ext (X1.out.trans (X2.out.trans (X3.out.trans (X4.out.trans X5.out))))) (IA.out.ext (X1.out.trans (X2.out.trans (X3.out.trans (X4.out.trans X5.out))))) (IB.out.ext (X1.out.trans (X2.out.trans (X3.out.trans (X4.out.trans X5.out))))) LA.out LB.out).mono ?_; rintro e w6 ⟨rfl, hE6⟩
      have X6 := Lib.hid hE6
      clear hE6
      generalize eqB (rows ps) (rows qs) = b0
      cases b0
      all_goals
        go_wp2_with fail
        go_ret
        exact ⟨rfl, (X1.out.trans (X2.out.trans (X3.out.trans (X4.out.trans (X5.out.trans X6.out)))))⟩
end Go.Proofs.Ytohpmbabegpefaa
