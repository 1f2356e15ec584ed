/- The law Unique. -/
import Derived.Test.YtcankdikbnllkaaGreatZz38
import Derived.Test.YtcankdikbnllkaaGreatZz45
import Derived.Test.YtcankdikbnllkaaGreatZz40
namespace Go.Proofs.YtcankdikbnllkaaGreat
open Go.ChangeShapes Go.WideShapes Go.ChangeAt Go.RowKit

/-- the timeslices agree at the first k points -/
def SaP (A B : List Tu) (pts : List Int) (k : Nat) : Prop := ∀ t ∈ pts.take k, sl A t = sl B t
theorem SaP.next {A B : List Tu} {pts : List Int} {k : Nat} (hk : k < pts.length) : SaP A B pts (k + 1) ↔ (SaP A B pts k ∧ sl A pts[k] = sl B pts[k]) := by
  unfold SaP
  rw [List.take_succ_eq_append_getElem hk]
  constructor
  · intro h
    exact ⟨fun t ht => h t (List.mem_append.2 (Or.inl ht)), h _ (List.mem_append.2 (Or.inr (List.mem_singleton.2 rfl)))⟩
  · rintro ⟨h1, h2⟩ t ht
    rcases List.mem_append.1 ht with ht | ht
    · exact h1 t ht
    · rw [List.mem_singleton.1 ht]; exact h2
theorem SaP.all {A B : List Tu} {pa pb : List Int} {k : Nat} (ha : IsBd (prs A) pa) (hb : IsBd (prs B) pb) (hk : (pa ++ pb).length ≤ k) : SaP A B (pa ++ pb) k ↔ EqvP A B := by
  unfold SaP
  rw [List.take_of_length_le hk]
  exact ⟨fun h => eqv_bd ha hb h, fun h t _ => sl_eq.2 fun r => h r t⟩
def UnR (W : World) (A B : List Tu) (pts : List Int) (u i : Value) (wr : World) : Prop := ∃ (k : Nat) (b : Bool), k ≤ pts.length ∧ i = .int .i64 k ∧ u = .bool b ∧ Hid (b = true ↔ SaP A B pts k) ∧ Ext W wr
set_option maxHeartbeats 8000000 in
set_option maxRecDepth 100000 in
theorem law_TupleUnique (x y : List Five) (vx vy : Value) (w : World) (rx : RdG w vx x) (ry : RdG w vy y) (kx : ∀ z ∈ x, z.ok) (ky : ∀ z ∈ y, z.ok) : Calls Tryz.prog 8 #[vx, vy] w fun e w' => e = .returned (.bool true) ∧ Ext w w' := by
  have HX := Lib.hid rx
  have HY := Lib.hid ry
  have KX := Lib.hid kx
  have KY := Lib.hid ky
  clear rx ry kx ky
  go_enter Tryz.func8, Tryz.ntmps8
  go_wp2_with fail
  refine (built 8 (by omega) x vx w HX.out KX.out).mono ?_; rintro e w1 ⟨v1, ps, rfl, o1, i1, s1, n1⟩
  have HO1 := Lib.hid o1
  have HI1 := Lib.hid i1
  have HS1 := Lib.hid s1
  have HN1 := Lib.hid n1
  clear o1 i1 s1 n1
  go_wp2_with fail
  refine (built 8 (by omega) y vy w1 (HY.out.ext HO1.out.2) KY.out).mono ?_; rintro e w2 ⟨v2, qs, rfl, o2, i2, s2, n2⟩
  have HR1 := Lib.hid (HO1.out.rd.ext o2.2)
  have HJ1 := Lib.hid (HI1.out.ext o2.2)
  have HR2 := Lib.hid o2.rd
  have HJ2 := Lib.hid i2
  have HS2 := Lib.hid s2
  have HN2 := Lib.hid n2
  have HE2 := Lib.hid (HO1.out.2.trans o2.2)
  clear o2 i2 s2 n2
  go_wp2_with fail
  refine (bounds_prgO ps v1 w2 HR1.out (by have := HN1.out; omega)).mono ?_; rintro e w3 ⟨v3, pa, rfl, b3, c3, l3⟩
  have HB3 := Lib.hid b3
  have HC3 := Lib.hid c3
  have HL3 := Lib.hid l3
  clear b3 c3 l3
  go_wp2_with fail
  refine (bounds_prg qs v2 w3 (HR2.out.ext HB3.out.2) (by have := HN2.out; omega)).mono ?_; rintro e w4 ⟨v4, pb, rfl, b4, c4, e4⟩
  have HB4 := Lib.hid b4
  have HC4 := Lib.hid c4
  have HE4 := Lib.hid e4
  have HL4 := Lib.hid (show pb.length ≤ 2000 by
    have h3 := nodup_le pb (bds qs) (c4.asc.imp fun h => by omega) (fun e he => (bds_mem qs e).2 ((c4.mem e).1 he))
    have h4 := bds_len qs
    have := HN2.out
    omega)
  clear b4 c4 e4
  go_wp2_with (at_builtin; refine appG tI rfl _ _ rfl w2 _ pa rfl ?a1 _ pb rfl ?a2 ?a3 ?_; (case a1 => exact HB3.out.ext HE4.out); (case a2 => exact HB4.out); (case a3 => have := HL3.out; have := HN1.out; have := HL4.out; omega); intro v5 w5 hO5 hg5; obtain ⟨ap, cp, rfl, g1, g2⟩ := hO5.rd.shape; obtain ⟨np, hnp⟩ : ∃ z, z = (pa ++ pb).length := ⟨_, rfl⟩; have hrd5 := hO5.rd; rw [← hnp] at g1 hrd5; rw [← hnp]; have HNP := Lib.hid hnp; clear hnp; have HRD5 := Lib.hid hrd5; clear hrd5)
  have HP := HRD5
  have HE5 := Lib.hid hO5.2
  have hpl : (pa ++ pb).length ≤ 3000 := by rw [List.length_append]; have := HL3.out; have := HN1.out; have := HL4.out; omega
  have HALL := Lib.hid (fun k (hk : (pa ++ pb).length ≤ k) => SaP.all (k := k) HC3.out HC4.out hk)
  unfold maxLen at g2
  clear hO5 hg5 HRD5
  rw [← HNP.out] at hpl
  generalize pa ++ pb = pts at *
  go_wp2_with fail
  go_loopw [7, 20] (UnR w5 (tus ps) (tus qs) pts) (fun _ i _ => np - (intOf i).toNat)
  case atStart => exact ⟨0, true, Nat.zero_le _, rfl, rfl, Lib.hid ⟨fun _ t ht => by simp at ht, fun _ => rfl⟩, Ext.refl _⟩
  case round =>
    obtain ⟨k, b, hk, rfl, rfl, HS, hE⟩ := hrel
    have hkn : k ≤ np := by rw [HNP.out]; exact hk
    have hk0 : (0 : Int) ≤ (k : Int) := by omega
    by_cases hlt : k < np
    · have hlt' : k < pts.length := by rw [← HNP.out]; exact hlt
      have hk1 : (k : Int) < (np : Int) := by omega
      obtain ⟨gp, op, rfl, c0'⟩ := rd_I HP.out k hlt'
      have c0 := hE.keeps c0'
      have HNX := Lib.hid (SaP.next (A := tus ps) (B := tus qs) hlt')
      clear c0'
      generalize pts[k] = t at *
      cases b with
      | true =>
        have HKY := Lib.hid (HS.out.1 rfl)
        clear HS
        have HE0 := Lib.hid (HE5.out.trans hE)
        go_wp2_with fail
        refine (tslice_prg ps t v1 _ (HR1.out.ext HE0.out) (HJ1.out.ext HE0.out) (by have := HN1.out; omega) HS1.out).mono ?_
        rintro e w6 ⟨v6, rs, rfl, s1, s2, s3, s4⟩
        have HT1 := Lib.hid s1
        have HT2 := Lib.hid s2
        have HT3 := Lib.hid s3
        have HE6 := Lib.hid s4
        clear s1 s2 s3 s4 c0
        go_wp2_with fail
        refine (tslice_prg qs t v2 w6 (HR2.out.ext (HE0.out.trans HE6.out)) (HJ2.out.ext (HE0.out.trans HE6.out)) (by have := HN2.out; omega) HS2.out).mono ?_
        rintro e w7 ⟨v7, us, rfl, u1, u2, u3, u4⟩
        have HU1 := Lib.hid u1
        have HU2 := Lib.hid u2
        have HU3 := Lib.hid u3
        have HE7 := Lib.hid u4
        clear u1 u2 u3 u4
        go_wp2_with fail
        refine (sameRows_ref rs us v6 v7 w7 (HT1.out.ext HE7.out) HU1.out (HT2.out.ext HE7.out) HU2.out).mono ?_
        rintro e w8 ⟨rfl, hE8⟩
        have HD := Lib.hid (show srB (rows rs) (rows us) = true ↔ SaP (tus ps) (tus qs) pts (k + 1) by
          rw [HNX.out]
          unfold srB
          rw [decide_eq_true_iff, HT3.out, HU3.out]
          exact ⟨fun h => ⟨HKY.out, h⟩, fun h => h.2⟩)
        generalize srB (rows rs) (rows us) = d at *
        go_wp2_with fail
        go_roundw
        case rel => exact ⟨k + 1, d, hlt', by go_num, rfl, HD, hE.trans (HE6.out.trans (HE7.out.trans hE8))⟩
        case measure => simp [intOf]; omega
      | false =>
        have HD := Lib.hid (show false = true ↔ SaP (tus ps) (tus qs) pts (k + 1) by
          rw [HNX.out]
          exact ⟨fun h => (by cases h), fun h => HS.out.2 h.1⟩)
        clear HS
        go_wp2_with fail
        go_roundw
        case rel => exact ⟨k + 1, false, hlt', by go_num, rfl, HD, hE⟩
        case measure => simp [intOf]; omega
    · have HA := Lib.hid (show b = true ↔ EqvP (tus ps) (tus qs) from HS.out.trans (HALL.out k (by rw [← HNP.out]; omega)))
      have HE0 := Lib.hid (HE5.out.trans hE)
      clear HS
      go_wp2_with fail
      refine (awake_law _).mono ?_; rintro e w6 ⟨rfl, hE6⟩
      have HE6 := Lib.hid (HE0.out.trans hE6)
      clear hE6
      go_wp2_with fail
      refine (equiv_prg ps qs v1 v2 w6 (HR1.out.ext HE6.out) (HR2.out.ext HE6.out) (HJ1.out.ext HE6.out) (HJ2.out.ext HE6.out) (by have := HN1.out; omega) (by have := HN2.out; omega)).mono ?_
      rintro e w7 ⟨c, rfl, hc, hE7⟩
      obtain rfl : c = b := Bool.eq_iff_iff.2 (hc.trans HA.out.symm)
      have HE7 := Lib.hid (HE6.out.trans hE7)
      have hbb : (c == c) = true := by simp
      clear hc hE7
      go_wp2_with fail
      refine (norm_prg ps v1 w7 (HR1.out.ext HE7.out) (HJ1.out.ext HE7.out) (by have := HN1.out; omega) HS1.out).mono ?_
      rintro e w8 ⟨v8, ns, rfl, r1, r2, r3, _, r5⟩
      have HM1 := Lib.hid r1
      have HM2 := Lib.hid r2
      have HM3 := Lib.hid r3
      have HE8 := Lib.hid (HE7.out.trans r5)
      clear r1 r2 r3 r5
      go_wp2_with fail
      refine (norm_prg qs v2 w8 (HR2.out.ext HE8.out) (HJ2.out.ext HE8.out) (by have := HN2.out; omega) HS2.out).mono ?_
      rintro e w9 ⟨v9, ms, rfl, r1, r2, r3, _, r5⟩
      have HK1 := Lib.hid r1
      have HK2 := Lib.hid r2
      have HK3 := Lib.hid r3
      have HE9 := Lib.hid r5
      clear r1 r2 r3 r5
      go_wp2_with fail
      refine (sameT_ref ns ms v8 v9 w9 (HM1.out.ext HE9.out) HK1.out (HM2.out.ext HE9.out) HK2.out).mono ?_
      rintro e w10 ⟨rfl, hE10⟩
      have HT := Lib.hid (show tuB (tus ns) (tus ms) = c from Bool.eq_iff_iff.2 (by
        unfold tuB
        rw [decide_eq_true_iff, HA.out]
        exact nf_iff HM3.out HK3.out))
      rw [HT.out]
      go_wp2_with fail
      go_ret
      exact ⟨rfl, (HE2.out.trans (HE8.out.trans HE9.out)).trans hE10⟩
end Go.Proofs.YtcankdikbnllkaaGreat
