/- The law CoalesceLineage. -/
import Derived.Test.YtnckdopphimgoaaZz39
import Derived.Test.YtnckdopphimgoaaZz45
import Derived.Test.YtnckdopphimgoaaZz42
namespace Go.Proofs.Ytnckdopphimgoaa
open Go.ChangeShapes Go.WideShapes Go.ChangeAt Go.RowKit

set_option maxHeartbeats 8000000 in
set_option maxRecDepth 100000 in
theorem law_CoalesceLineage (x : List Five) (s : Int) (vx : Value) (w : World) (rx : RdG w vx x) (kx : ∀ z ∈ x, z.ok) (s0 : 0 ≤ s) (s1 : s ≤ 255) : Calls Try.prog 4 #[vx, .int .u8 s] w fun e w' => e = .returned (.bool true) ∧ Ext w w' := by
  have HX := Lib.hid rx
  have KX := Lib.hid kx
  obtain ⟨j, rfl⟩ : ∃ j : Nat, s = (j : Int) := ⟨s.toNat, by omega⟩
  have wi := wrapI (j : Int) (by omega) (by omega)
  have hj : j ≤ 255 := by omega
  clear rx kx s0 s1
  go_enter Try.func4, Try.ntmps4
  go_wp2_with fail
  refine (built 16 (by omega) x vx w HX.out KX.out).mono ?_; rintro e w1 ⟨v1, ts, rfl, o1, i1, s1, n1⟩
  have HR := Lib.hid o1.rd
  have HE1 := Lib.hid o1.2
  have HI := Lib.hid i1
  have HS := Lib.hid s1
  have HN := Lib.hid n1
  clear o1 i1 s1 n1
  obtain ⟨n, hn⟩ : ∃ z, z = ts.length := ⟨_, rfl⟩
  have HNN := Lib.hid hn
  have hn16 : n ≤ 16 := by have := HN.out; omega
  clear hn
  go_wp2_with (at_builtin; refine appG tT rfl _ _ rfl w1 _ [] rfl ?a1 _ ts rfl ?a2 ?a3 ?_; (case a1 => exact OwnG.nil _ _ _ (Ext.refl _)); (case a2 => exact HR.out); (case a3 => have := HN.out; simp; omega); intro v2 w2 hO2 hg2; have HO2 := Lib.hid (show OwnG tT.e w1 w2 v2 ts by simpa using hO2); obtain ⟨ad, cp, rfl, hsh, hcm⟩ := HO2.out.rd.shape; rw [← HNN.out] at hsh HO2 ⊢; clear hO2 hg2)
  have HL0 := Lib.hid (show LnO w1 w2 (.slice ad n cp) (nls (tus ts)) from ⟨ts, HO2.out, fun p hp => ⟨(HI.out p hp).ext HO2.out.2, off_old (HI.out p hp).1, off_old (HI.out p hp).2⟩, HS.out, rfl⟩)
  unfold maxLen at hcm
  clear HO2
  go_loopw [15] (LnR w1 n (nls (tus ts)) (.slice ad n cp)) (fun i _ => n - (intOf i).toNat)
  case atStart => exact ⟨0, Nat.zero_le _, rfl, HL0.out⟩
  case round =>
    obtain ⟨k, hk, rfl, us, hO, hI, hS, hT⟩ := hrel
    have hlen : us.length = n := by rw [lno_len hT, HNN.out]
    by_cases hlt : k < n
    · obtain ⟨g, cap, hv, hc1, hc2⟩ := own_blkG hO (by omega)
      rw [hlen] at hv hc1
      injection hv with e1 _ e3
      subst e1 e3
      unfold maxLen at hc2
      have hk0 : (0 : Int) ≤ (k : Int) := Int.natCast_nonneg _
      have hk1 : (k : Int) < (n : Int) := by omega
      have hb0 : (0 : Int) ≤ (k : Int) * (j : Int) := Int.mul_nonneg hk0 (Int.natCast_nonneg _)
      have hb1 : (k : Int) * (j : Int) ≤ 4080 := by
        have h1 : k * j ≤ 16 * 255 := Nat.mul_le_mul (by omega) hj
        have h2 : ((k * j : Nat) : Int) ≤ 4080 := by omega
        rwa [Int.natCast_mul] at h2
      have e1 := wrapI ((k : Int) * (j : Int)) (by omega) (by omega)
      have e2 := wrapI (1 + (k : Int) * (j : Int)) (by omega) (by omega)
      have hX := (Ext.refl wr).alloc #[.int .i64 (1 + (k : Int) * (j : Int))] 3
      have hO1 := hO.ext hX
      have hI1 := fun p hp => TpO.ext (hI p hp) hX
      have hy := own_litB tI.e (hO.2) [1 + (k : Int) * (j : Int)] #[.int .i64 (1 + (k : Int) * (j : Int))] wr.heap.size 1 rfl rfl (by simp) rfl
      obtain ⟨g', o', e', _, _, _, z⟩ := rd_T hO1.rd k (by omega)
      cases e'
      have hw1 := hO1.1
      rw [hlen] at hw1
      have zf := hw1.frozenAt (k * 4 + 3)
      have hku : k < us.length := by omega
      have hOn := lin_next hlen.symm hO1 hI1 hS hT hku hy
      have HON := Lib.hid hOn
      have hlt2 := World.block_lt_of_cell? _ _ z
      simp only [Nat.zero_add] at z
      clear hOn hku hy hI1 hw1 hO1 hI hO hX hT hS HL0 hb0 hb1
      go_wp2_with fail
      go_roundw
      case rel => exact ⟨k + 1, hlt, by go_num, HON.out⟩
      case measure => first | (simp [intOf]; done) | (simp [intOf]; omega)
    · have HO := Lib.hid hO
      have HI2 := Lib.hid hI
      have HS2 := Lib.hid hS
      have HT := Lib.hid hT
      have HUN := Lib.hid (show us.length ≤ 16 by omega)
      have HE2 := Lib.hid hO.2
      clear hO hI hS hT hlen HL0
      go_wp2_with fail
      refine (co_prg ts v1 wr (HR.out.ext HE2.out) (HI.out.ext HE2.out) (by have := HN.out; omega) HS.out).mono ?_
      rintro e w3 ⟨v3, cs, rfl, r1, r2, r3, r4, r6, r5⟩
      have HC1 := Lib.hid r1
      have HC2 := Lib.hid r2
      have HC3 := Lib.hid r3
      have HC4 := Lib.hid (show cs.length ≤ 16 by have := HN.out; omega)
      have HC5 := Lib.hid r6
      have HE3 := Lib.hid r5
      clear r1 r2 r3 r4 r5 r6
      go_wp2_with fail
      refine (awake_law _).mono ?_; rintro e w4 ⟨rfl, hE⟩
      have HE4 := Lib.hid (HE3.out.trans hE)
      have HE34 := Lib.hid hE
      clear hE
      go_wp2_with fail
      refine (co_prg us _ w4 (HO.out.rd.ext HE4.out) (fun p hp => (HI2.out p hp).1.ext HE4.out) (by have := HUN.out; omega) HS2.out).mono ?_
      rintro e w5 ⟨v5, ds, rfl, r1, r2, r3, _, _, r5⟩
      have HD1 := Lib.hid r1
      have HD2 := Lib.hid r2
      have HDT := Lib.hid (show tuB (tus ds) (tus cs) = true by
        rw [IsNf.unique r3 (co_same HC3.out HT.out.symm)]
        unfold tuB; simp)
      have HE5 := Lib.hid (HE34.out.trans r5)
      clear r1 r2 r3 r5
      go_wp2_with fail
      refine (sameT_ref ds cs v5 v3 w5 HD1.out (HC1.out.ext HE5.out) HD2.out (HC2.out.ext HE5.out)).mono ?_
      rintro e w6 ⟨rfl, hE6⟩
      rw [HDT.out]
      have HE6 := Lib.hid (HE5.out.trans hE6)
      clear hE6
      go_wp2_with fail
      refine (norm_prg ts v1 w6 (HR.out.ext (HE2.out.trans (HE3.out.trans HE6.out))) (HI.out.ext (HE2.out.trans (HE3.out.trans HE6.out))) (by have := HN.out; omega) HS.out).mono ?_
      rintro e w7 ⟨v7, ns, rfl, r1, r2, r3, r4, r5⟩
      have HN1 := Lib.hid r1
      have HN2 := Lib.hid r2
      have HN3 := Lib.hid r3
      have HN4 := Lib.hid (show ns.length ≤ 16 by have := HN.out; omega)
      have HE7 := Lib.hid (HE6.out.trans r5)
      clear r1 r2 r3 r4 r5
      go_wp2_with fail
      refine (co_prg ns v7 w7 HN1.out HN2.out (by have := HN4.out; omega) (HS.out.nf HN3.out)).mono ?_
      rintro e w8 ⟨v8, es, rfl, r1, r2, r3, _, _, r5⟩
      have HF1 := Lib.hid r1
      have HF2 := Lib.hid r2
      have HFT := Lib.hid (show tuB (tus es) (tus cs) = true by
        rw [IsNf.unique r3 (co_cong HC3.out fun r t => (HN3.out.cnt r t).symm)]
        unfold tuB; simp)
      have HE8 := Lib.hid (HE7.out.trans r5)
      clear r1 r2 r3 r5
      go_wp2_with fail
      refine (sameT_ref es cs v8 v3 w8 HF1.out (HC1.out.ext HE8.out) HF2.out (HC2.out.ext HE8.out)).mono ?_
      rintro e w9 ⟨rfl, hE9⟩
      rw [HFT.out]
      have HE9 := Lib.hid (HE8.out.trans hE9)
      clear hE9
      go_wp2_with fail
      refine (co_prg cs v3 w9 (HC1.out.ext HE9.out) (HC2.out.ext HE9.out) (by have := HC4.out; omega) HC5.out).mono ?_
      rintro e wa ⟨va, fs, rfl, r1, r2, r3, _, _, r5⟩
      have HG1 := Lib.hid r1
      have HG2 := Lib.hid r2
      have HGT := Lib.hid (show tuB (tus fs) (tus cs) = true by
        rw [IsNf.unique r3 (co_self HC3.out)]
        unfold tuB; simp)
      have HEA := Lib.hid (HE9.out.trans r5)
      clear r1 r2 r3 r5
      go_wp2_with fail
      refine (sameT_ref fs cs va v3 wa HG1.out (HC1.out.ext HEA.out) HG2.out (HC2.out.ext HEA.out)).mono ?_
      rintro e wb ⟨rfl, hEB⟩
      rw [HGT.out]
      go_wp2_with fail
      go_ret
      exact ⟨rfl, (HE1.out.trans (HE2.out.trans (HE3.out.trans HEA.out))).trans hEB⟩
end Go.Proofs.Ytnckdopphimgoaa
