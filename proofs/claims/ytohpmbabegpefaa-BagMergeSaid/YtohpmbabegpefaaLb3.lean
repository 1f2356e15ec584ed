/- The law BagMerge. -/
import Derived.Test.YtohpmbabegpefaaLb1
import Derived.Test.YtohpmbabegpefaaMl2
namespace Go.Proofs.Ytohpmbabegpefaa
open Go.ChangeShapes Go.WideShapes Go.ChangeAt Go.RowKit

def LmR (w : World) (ps : List P) (n i : Value) (wr : World) : Prop := ∃ k : Nat, k ≤ ps.length ∧ i = .int .i64 k ∧ n = .bool true ∧ Ext w wr
set_option maxHeartbeats 8000000 in
set_option maxRecDepth 100000 in
theorem law_BagMerge (x y : List Int) (ps qs : List P) (vx vy va vb : Value) (w : World) (rx : RdG w vx x) (ry : RdG w vy y) (ra : RdG w va ps) (rb : RdG w vb qs) (ia : RdAll w ps) (ib : RdAll w qs) : Calls Try.prog 4 #[vx, vy, va, vb] w fun e w' => e = .returned (.bool true) ∧ Ext w w' := by
  obtain ⟨ax, cx, rfl, _, _⟩ := rx.shape
  obtain ⟨ay, cy, rfl, _, _⟩ := ry.shape
  have HX := Lib.hid rx
  have HY := Lib.hid ry
  have HA := Lib.hid ra
  have HB := Lib.hid rb
  have IA := Lib.hid ia
  have IB := Lib.hid ib
  clear rx ry ra rb ia ib
  obtain ⟨n1, e1⟩ : ∃ n, n = x.length := ⟨_, rfl⟩
  obtain ⟨n2, e2⟩ : ∃ n, n = y.length := ⟨_, rfl⟩
  rw [← e1] at HX ⊢
  rw [← e2] at HY ⊢
  have HN1 := Lib.hid e1
  have HN2 := Lib.hid e2
  clear e1 e2
  by_cases h1 : n1 ≤ 60
  · have i1 : ¬ (60 : Int) < (n1 : Int) := by omega
    by_cases h2 : n2 ≤ 60
    · have i2 : ¬ (60 : Int) < (n2 : Int) := by omega
      have L1 := Lib.hid (show x.length ≤ 60 ∧ y.length ≤ 60 by rw [← HN1.out, ← HN2.out]; exact ⟨h1, h2⟩)
      clear h1 h2
      go_enter Try.func4, Try.ntmps4
      go_wp2_with fail
      refine (few_law ps 30 va w HA.out IA.out (by decide) (by decide)).mono ?_; rintro e w0 ⟨f1, rfl, hf1, rfl⟩
      cases f1 with
      | false =>
        clear hf1
        go_wp2_with fail
        refine (awake_law _).mono ?_; rintro e w1 ⟨rfl, hE1⟩
        have X1 := Lib.hid hE1
        clear hE1
        go_wp2_with fail
        go_ret
        exact ⟨rfl, X1.out⟩
      | true =>
        have F1 := Lib.hid (hf1 rfl)
        clear hf1
        go_wp2_with fail
        refine (few_law qs 30 vb w HB.out IB.out (by decide) (by decide)).mono ?_; rintro e w0 ⟨f2, rfl, hf2, rfl⟩
        cases f2 with
        | false =>
          clear hf2
          go_wp2_with fail
          refine (awake_law _).mono ?_; rintro e w1 ⟨rfl, hE1⟩
          have X1 := Lib.hid hE1
          clear hE1
          go_wp2_with fail
          go_ret
          exact ⟨rfl, X1.out⟩
        | true =>
          have F2 := Lib.hid (hf2 rfl)
          have LA := Lib.hid (show ps.length ≤ 1000000 by have := F1.out.1; omega)
          have LB := Lib.hid (show qs.length ≤ 1000000 by have := F2.out.1; omega)
          have SA := Lib.hid (show Small ps from fun p hp => by have := F1.out.2 p hp; omega)
          have SB := Lib.hid (show Small qs from fun p hp => by have := F2.out.2 p hp; omega)
          clear hf2
          go_wp2_with fail
          refine (diff_prg ps qs _ _ _ HA.out HB.out IA.out IB.out LA.out LB.out SA.out SB.out).mono ?_; rintro e w1 ⟨u1, u2, o1s, o1t, rfl, ⟨p1, p2, p3⟩, ⟨q1, q2, q3⟩, hE1⟩
          have X1 := Lib.hid hE1
          have P1 := Lib.hid p1
          have P2 := Lib.hid p2
          have P3 := Lib.hid p3
          have Q1 := Lib.hid q1
          have Q2 := Lib.hid q2
          have Q3 := Lib.hid q3
          clear p1 p2 p3 q1 q2 q3
          clear hE1
          go_wp2_with fail
          refine (diff_ref ps qs _ _ _ (HA.out.ext X1.out) (HB.out.ext X1.out) (IA.out.ext X1.out) (IB.out.ext X1.out) LA.out LB.out).mono ?_; rintro e w2 ⟨u3, u4, o2s, o2t, rfl, ⟨p1, p2, p3⟩, ⟨q1, q2, q3⟩, hE2⟩
          have X2 := Lib.hid hE2
          have P4 := Lib.hid p1
          have P5 := Lib.hid p2
          have P6 := Lib.hid p3
          have Q4 := Lib.hid q1
          have Q5 := Lib.hid q2
          have Q6 := Lib.hid q3
          clear p1 p2 p3 q1 q2 q3
          clear hE2
          have HA2 := Lib.hid (HA.out.ext (X1.out.trans X2.out))
          have HB2 := Lib.hid (HB.out.ext (X1.out.trans X2.out))
          have IA2 := Lib.hid (IA.out.ext (X1.out.trans X2.out))
          have IB2 := Lib.hid (IB.out.ext (X1.out.trans X2.out))
          obtain ⟨aa, ca, rfl, a1, a2⟩ := HA2.out.shape
          obtain ⟨n, hn⟩ : ∃ n, n = ps.length := ⟨_, rfl⟩
          have HN := Lib.hid hn
          rw [← hn] at HA HA2 a1 ⊢
          clear hn
          unfold maxLen at a2
          go_wp2_with fail
          go_loopw [13, 49] (LmR w2 ps) (fun _ i _ => n - (intOf i).toNat)
          case atStart => exact ⟨0, Nat.zero_le _, rfl, rfl, Ext.refl _⟩
          case round =>
            obtain ⟨k, hk, rfl, rfl, hE⟩ := hrel
            have hkn : k ≤ n := by rw [HN.out]; exact hk
            by_cases hlt : k < n
            · have hlt' : k < ps.length := by rw [← HN.out]; exact hlt
              obtain ⟨g, o, rfl, c0', c1'⟩ := rd_P HA2.out k hlt'
              have c0 := hE.keeps c0'
              have c1 := hE.keeps c1'
              have hix := IA2.out ps[k] (List.getElem_mem _)
              clear c0' c1'
              generalize ps[k] = p at *
              obtain ⟨⟨xa, xn, xc, xb, xm, xd⟩, xr⟩ := p
              simp only [Hd.x, Hd.y] at c0 c1
              have HV := Lib.hid (fun z (hg : Ext w2 z) => mult_prg qs xr.v vb (.slice xa xn xc) z (HB2.out.ext hg) (IB2.out.ext hg) (hix.1.ext hg))
              have HVR := Lib.hid (fun z (hg : Ext w2 z) => mult_ref qs xr.v vb (.slice xa xn xc) z (HB2.out.ext hg) (IB2.out.ext hg) (hix.1.ext hg))
              clear hix
              have B0 : (wr.alloc (.cells #[.slice xa xn xc, .slice xb xm xd] 32)).cell? ⟨wr.heap.size, 0, none⟩ = some (.slice xa xn xc) := al0 _ _ _ _
              have EX : Ext wr (wr.alloc (.cells #[.slice xa xn xc, .slice xb xm xd] 32)) := (Ext.refl wr).alloc _ _
              go_wp2_with fail
              generalize wr.alloc (.cells #[.slice xa xn xc, .slice xb xm xd] 32) = w0 at *
              have K0 := Lib.hid B0
              have HW0 := Lib.hid (hE.trans EX)
              clear c0 c1 EX
              have FIRST : True := trivial
              go_region_held3 (fun w' => w'.cell? ⟨wr.heap.size, 0, none⟩ = some (.slice xa xn xc)) (first | exact K0.out | exact f0 | exact f1 | go_keep)
                (first | (go_at_call 18; refine (HV.out _ ?_).mono ?_; (first | exact HW0.out | exact HW0.out.drew); rintro e w3 ⟨rfl, hM3⟩; have e3 : Ext w0 w3 := ⟨hM3.1, hM3.2.1, hM3.2.2⟩; have f0 := e3.keeps K0.out) | (go_at_call 19; refine (HVR.out _ ?_).mono ?_; (first | exact HW0.out.trans e3 | exact (HW0.out.trans e3).drew); rintro e w4 ⟨rfl, hM4⟩; have e4 : Ext w3 w4 := ⟨hM4.1, hM4.2.1, hM4.2.2⟩; have f1 := e4.keeps f0))
              all_goals
                go_wp2_with fail
                go_roundw
                case rel => exact ⟨k + 1, hlt', by go_num, rfl, HW0.out.trans (e3.trans e4)⟩
                case measure => simp [intOf]; omega
            · have X3 := Lib.hid hE
              clear hE
              go_wp2_with fail
              refine (awake_law _).mono ?_; rintro e w4 ⟨rfl, hE4⟩
              have X4 := Lib.hid hE4
              clear hE4
              go_wp2_with fail
              refine (mlq x y _ _ _ (HX.out.ext (X1.out.trans (X2.out.trans (X3.out.trans X4.out)))) (HY.out.ext (X1.out.trans (X2.out.trans (X3.out.trans X4.out)))) (by have := L1.out; omega)).mono ?_; rintro e w5 ⟨vm, rfl, hrm, hE5⟩
              have X5 := Lib.hid hE5
              have HM := Lib.hid hrm
              clear hrm
              clear hE5
              go_wp2_with fail
              refine (ml_ref x y _ _ _ (HX.out.ext (X1.out.trans (X2.out.trans (X3.out.trans (X4.out.trans X5.out))))) (HY.out.ext (X1.out.trans (X2.out.trans (X3.out.trans (X4.out.trans X5.out))))) (by have := L1.out; omega) (by have := L1.out; omega)).mono ?_; rintro e w6 ⟨vr, cs, rfl, hO, hA, hM, hL⟩
              have X6 := Lib.hid hO.2
              obtain rfl : cs = mlL x y := asc_unique _ _ hA (mlL_asc x y) fun c => by rw [hM, mlL_mem]
              have HR := Lib.hid hO.rd
              clear hO hA hM hL
              go_wp2_with fail
              refine (same_ints (mlL x y) _ _ _ (HM.out.ext X6.out) HR.out).mono ?_; rintro e w7 ⟨rfl, hE7⟩
              have X7 := Lib.hid hE7
              clear hE7
              go_wp2_with fail
              refine (sameRows_ref o1s o2s _ _ _ (P1.out.ext (X2.out.trans (X3.out.trans (X4.out.trans (X5.out.trans (X6.out.trans X7.out)))))) (P4.out.ext (X3.out.trans (X4.out.trans (X5.out.trans (X6.out.trans X7.out))))) (P2.out.ext (X2.out.trans (X3.out.trans (X4.out.trans (X5.out.trans (X6.out.trans X7.out)))))) (P5.out.ext (X3.out.trans (X4.out.trans (X5.out.trans (X6.out.trans X7.out)))))).mono ?_; rintro e w8 ⟨rfl, hE8⟩
              have X8 := Lib.hid hE8
              clear hE8
              have hs : srB (rows o1s) (rows o2s) = true := by unfold srB; rw [P3.out, P6.out]; simp
              rw [hs]
              clear hs
              go_wp2_with fail
              refine (sameRows_ref o1t o2t _ _ _ (Q1.out.ext (X2.out.trans (X3.out.trans (X4.out.trans (X5.out.trans (X6.out.trans (X7.out.trans X8.out))))))) (Q4.out.ext (X3.out.trans (X4.out.trans (X5.out.trans (X6.out.trans (X7.out.trans X8.out)))))) (Q2.out.ext (X2.out.trans (X3.out.trans (X4.out.trans (X5.out.trans (X6.out.trans (X7.out.trans X8.out))))))) (Q5.out.ext (X3.out.trans (X4.out.trans (X5.out.trans (X6.out.trans (X7.out.trans X8.out))))))).mono ?_; rintro e w9 ⟨rfl, hE9⟩
              have X9 := Lib.hid hE9
              clear hE9
              have hs : srB (rows o1t) (rows o2t) = true := by unfold srB; rw [Q3.out, Q6.out]; simp
              rw [hs]
              clear hs
              go_wp2_with fail
              go_ret
              exact ⟨rfl, (X1.out.trans (X2.out.trans (X3.out.trans (X4.out.trans (X5.out.trans (X6.out.trans (X7.out.trans (X8.out.trans X9.out))))))))⟩
    · have i9 : (60 : Int) < (n2 : Int) := by omega
      go_enter Try.func4, Try.ntmps4
      go_wp2_with fail
      refine (awake_law _).mono ?_; rintro e w1 ⟨rfl, hE1⟩
      have X1 := Lib.hid hE1
      clear hE1
      go_wp2_with fail
      go_ret
      exact ⟨rfl, X1.out⟩
  · have i9 : (60 : Int) < (n1 : Int) := by omega
    go_enter Try.func4, Try.ntmps4
    go_wp2_with fail
    refine (awake_law _).mono ?_; rintro e w1 ⟨rfl, hE1⟩
    have X1 := Lib.hid hE1
    clear hE1
    go_wp2_with fail
    go_ret
    exact ⟨rfl, X1.out⟩
end Go.Proofs.Ytohpmbabegpefaa
