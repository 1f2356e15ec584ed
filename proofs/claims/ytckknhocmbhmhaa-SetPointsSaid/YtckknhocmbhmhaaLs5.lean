/- The walk of the law SetPoints: it returns true at every input. -/
import Derived.Test.YtckknhocmbhmhaaLs1
import Derived.Test.YtckknhocmbhmhaaCat
import Derived.Test.YtckknhocmbhmhaaIsx
namespace Go.Proofs.Ytckknhocmbhmhaa
open Go.ChangeShapes Go.WideShapes Go.ChangeAt Go.RowKit

theorem incs_at (l : List (Int × Int)) (v : Value) (t : Int) (q : Bool) (w : World) (h : Rd w v l) (e : memB l t = q) : Calls Try.prog 25 #[v, .int .i64 t] w fun e w' => e = .returned (.bool q) ∧ Ext w w' := by
  have := incs_per l v t w h
  rw [e] at this
  exact this.mono fun _ _ ⟨x, y⟩ => ⟨x, ext_of_grown y⟩
set_option maxHeartbeats 16000000 in
theorem law_SetPoints (a b : List (Int × Int)) (va vb : Value) (t : Int) (w : World) (ha : Rd w va a) (hb : Rd w vb b) : Calls Try.prog 5 #[va, vb, .int .i64 t] w fun e w' => e = .returned (.bool true) ∧ Ext w w' := by
  have HA := Lib.hid ha
  have HB := Lib.hid hb
  obtain ⟨ada, capa, rfl, _, _, _, hxa⟩ := ha
  obtain ⟨adb, capb, rfl, _, _, _, hxb⟩ := hb
  have HXA := Lib.hid hxa
  have HXB := Lib.hid hxb
  clear hxa hxb
  by_cases hl : a.length ≤ 40 ∧ b.length ≤ 40
  · obtain ⟨la, lb⟩ := hl
    obtain ⟨na, hna⟩ : ∃ n, n = a.length := ⟨_, rfl⟩
    obtain ⟨nb, hnb⟩ : ∃ n, n = b.length := ⟨_, rfl⟩
    have HNA := Lib.hid hna
    have HNB := Lib.hid hnb
    rw [← hna] at HA ⊢
    rw [← hnb] at HB ⊢
    have la' : na ≤ 40 := by omega
    have lb' : nb ≤ 40 := by omega
    clear hna hnb
    go_enter Try.func5, Try.ntmps5
    go_wp2_with fail
    refine (few_yes a b _ _ _ HA.out HB.out la lb).mono ?_
    rintro e w0 ⟨rfl, rfl⟩
    go_wp2_with fail
    go_loopw [7, 20] (fun u i wr => ∃ k : Nat, k ≤ na ∧ i = .int .i64 k ∧ u = .bool (memB (a.take k) t) ∧ Ext w wr) (fun _ i _ => na - (intOf i).toNat)
    case atStart => exact ⟨0, by omega, rfl, rfl, Ext.refl _⟩
    case round =>
      obtain ⟨k, hk, rfl, rfl, hE⟩ := hrel
      by_cases hlt : k < na
      · have hkl : k < a.length := by rw [← HNA.out]; exact hlt
        obtain ⟨g, o, rfl, c0', c1'⟩ := HXA.out k hkl
        have c0 := hE.keeps c0'
        have c1 := hE.keeps c1'
        have hi1 : (k : Int) < (na : Int) := by omega
        have hst := memB_step a t k hkl
        generalize a[k].1 = x at c0 hst
        generalize a[k].2 = y at c1 hst
        clear c0' c1'
        cases hm : memB (a.take k) t
        · have HI := Lib.hid (show incB x y t = memB (a.take (k + 1)) t by rw [hst, hm]; rfl)
          clear hm hst
          go_wp2_with fail
          refine (inc_at _ _ _ _ _ HI.out).mono ?_; rintro e w6 ⟨rfl, hg6⟩
          have hE6 := (hE.alloc _ _).trans (ext_of_grown hg6)
          clear c0 c1 hg6
          go_wp2_with fail
          go_roundw
          case rel => exact ⟨k + 1, by omega, by go_num, by simp, hE6⟩
          case measure => simp [intOf]; omega
        · have HI := Lib.hid (show memB (a.take (k + 1)) t = true by rw [hst, hm]; rfl)
          clear hm hst
          go_wp2_with fail
          go_roundw
          case rel => exact ⟨k + 1, by omega, by go_num, by rw [HI.out], hE.alloc _ _⟩
          case measure => simp [intOf]; omega
      · have hkn : k = na := by omega
        have hall : a.take k = a := by rw [hkn, HNA.out]; exact List.take_length
        rw [hall]
        clear hall hkn
        generalize hmx : memB a t = X
        have HMX0 := Lib.hid hmx
        clear hmx
        obtain ⟨wA, rfl⟩ : ∃ z, z = wr := ⟨_, rfl⟩
        have eA : Ext w wA := hE
        clear hE
        go_wp2_with fail
        go_loopw [8, 33] (fun u i wr => ∃ k : Nat, k ≤ nb ∧ i = .int .i64 k ∧ u = .bool (memB (b.take k) t) ∧ Ext wA wr) (fun _ i _ => nb - (intOf i).toNat)
        case atStart => exact ⟨0, by omega, rfl, rfl, Ext.refl _⟩
        case round =>
          obtain ⟨k, hk, rfl, rfl, hE⟩ := hrel
          by_cases hlt : k < nb
          · have hkl : k < b.length := by rw [← HNB.out]; exact hlt
            obtain ⟨g, o, rfl, c0', c1'⟩ := HXB.out k hkl
            have c0 := (eA.trans hE).keeps c0'
            have c1 := (eA.trans hE).keeps c1'
            have hi1 : (k : Int) < (nb : Int) := by omega
            have hst := memB_step b t k hkl
            generalize b[k].1 = x at c0 hst
            generalize b[k].2 = y at c1 hst
            clear c0' c1'
            cases hm : memB (b.take k) t
            · have HI := Lib.hid (show incB x y t = memB (b.take (k + 1)) t by rw [hst, hm]; rfl)
              clear hm hst
              go_wp2_with fail
              refine (inc_at _ _ _ _ _ HI.out).mono ?_; rintro e w6 ⟨rfl, hg6⟩
              have hE6 := (hE.alloc _ _).trans (ext_of_grown hg6)
              clear c0 c1 hg6
              go_wp2_with fail
              go_roundw
              case rel => exact ⟨k + 1, by omega, by go_num, by simp, hE6⟩
              case measure => simp [intOf]; omega
            · have HI := Lib.hid (show memB (b.take (k + 1)) t = true by rw [hst, hm]; rfl)
              clear hm hst
              go_wp2_with fail
              go_roundw
              case rel => exact ⟨k + 1, by omega, by go_num, by rw [HI.out], hE.alloc _ _⟩
              case measure => simp [intOf]; omega
          · have hkn : k = nb := by omega
            have hall : b.take k = b := by rw [hkn, HNB.out]; exact List.take_length
            rw [hall]
            clear hall hkn
            obtain ⟨w5, rfl⟩ : ∃ z, z = wr := ⟨_, rfl⟩
            have e5 : Ext w w5 := eA.trans hE
            generalize hmy : memB b t = Y
            have HMY0 := Lib.hid hmy
            clear hmy hE
            cases X
            · have HMX := HMX0
              cases Y
              · have HMY := HMY0
                go_wp2_with fail
                refine (awake_law _).mono ?_
                rintro e w6 ⟨rfl, e6'⟩
                have e6 : Ext w w6 := e5.trans e6'
                clear e6'
                go_wp2_with fail
                refine (incs_at _ _ t false _ (HA.out.ext e6) (by exact HMX.out)).mono ?_
                rintro e w7 ⟨rfl, e7'⟩
                have e7 : Ext w w7 := e6.trans e7'
                clear e7'
                go_wp2_with fail
                refine (norm_per a _ _ (HA.out.ext e7) (by omega)).mono ?_
                rintro e w8 ⟨v8, l8, rfl, n8, m8, o8, e8'⟩
                have e8 : Ext w w8 := e7.trans e8'
                have FN := Lib.hid (And.intro n8 m8)
                have RN := Lib.hid (rd_of_owns o8)
                clear n8 m8 o8 e8'
                go_wp2_with fail
                refine (incs_at _ _ t false _ RN.out (by rw [FN.out.2]; exact HMX.out)).mono ?_
                rintro e w9 ⟨rfl, e9'⟩
                have RN := Lib.hid (RN.out.ext e9')
                have e9 : Ext w w9 := e8.trans e9'
                clear e9'
                go_wp2_with fail
                refine (union_per a b _ _ _ (HA.out.ext e9) (HB.out.ext e9) (by omega)).mono ?_
                rintro e w10 ⟨v10, l10, rfl, n10, m10, o10, e10'⟩
                have RN := Lib.hid (RN.out.ext e10')
                have e10 : Ext w w10 := e9.trans e10'
                have FU := Lib.hid (And.intro n10 m10)
                have RU := Lib.hid (rd_of_owns o10)
                clear n10 m10 o10 e10'
                go_wp2_with fail
                refine (incs_at _ _ t false _ RU.out (by rw [FU.out.2, HMX.out, HMY.out]; rfl)).mono ?_
                rintro e w11 ⟨rfl, e11'⟩
                have RN := Lib.hid (RN.out.ext e11')
                have RU := Lib.hid (RU.out.ext e11')
                have e11 : Ext w w11 := e10.trans e11'
                clear e11'
                go_wp2_with fail
                refine (inter_per a b _ _ _ (HA.out.ext e11) (HB.out.ext e11) (by omega) (by omega)).mono ?_
                rintro e w12 ⟨v12, l12, rfl, n12, m12, o12, e12'⟩
                have RN := Lib.hid (RN.out.ext e12')
                have RU := Lib.hid (RU.out.ext e12')
                have e12 : Ext w w12 := e11.trans e12'
                have FI := Lib.hid (And.intro n12 m12)
                have RI := Lib.hid (rd_of_owns o12)
                clear n12 m12 o12 e12'
                go_wp2_with fail
                refine (incs_at _ _ t false _ RI.out (by rw [FI.out.2, andB, HMX.out, HMY.out]; rfl)).mono ?_
                rintro e w13 ⟨rfl, e13'⟩
                have RN := Lib.hid (RN.out.ext e13')
                have RU := Lib.hid (RU.out.ext e13')
                have RI := Lib.hid (RI.out.ext e13')
                have e13 : Ext w w13 := e12.trans e13'
                clear e13'
                go_wp2_with fail
                refine (subt_per a b _ _ _ (HA.out.ext e13) (HB.out.ext e13) (by omega) (by omega)).mono ?_
                rintro e w14 ⟨v14, l14, rfl, n14, m14, o14, e14'⟩
                have RN := Lib.hid (RN.out.ext e14')
                have RU := Lib.hid (RU.out.ext e14')
                have RI := Lib.hid (RI.out.ext e14')
                have e14 : Ext w w14 := e13.trans e14'
                have FD := Lib.hid (And.intro n14 m14)
                have RD := Lib.hid (rd_of_owns o14)
                clear n14 m14 o14 e14'
                go_wp2_with fail
                refine (incs_at _ _ t false _ RD.out (by rw [FD.out.2, subB, HMX.out, HMY.out]; rfl)).mono ?_
                rintro e w15 ⟨rfl, e15'⟩
                have RN := Lib.hid (RN.out.ext e15')
                have RU := Lib.hid (RU.out.ext e15')
                have RI := Lib.hid (RI.out.ext e15')
                have RD := Lib.hid (RD.out.ext e15')
                have e15 : Ext w w15 := e14.trans e15'
                clear e15'
                go_wp2_with fail
                go_ret
                exact ⟨rfl, e15⟩
              · have HMY := HMY0
                go_wp2_with fail
                refine (awake_law _).mono ?_
                rintro e w6 ⟨rfl, e6'⟩
                have e6 : Ext w w6 := e5.trans e6'
                clear e6'
                go_wp2_with fail
                refine (incs_at _ _ t false _ (HA.out.ext e6) (by exact HMX.out)).mono ?_
                rintro e w7 ⟨rfl, e7'⟩
                have e7 : Ext w w7 := e6.trans e7'
                clear e7'
                go_wp2_with fail
                refine (norm_per a _ _ (HA.out.ext e7) (by omega)).mono ?_
                rintro e w8 ⟨v8, l8, rfl, n8, m8, o8, e8'⟩
                have e8 : Ext w w8 := e7.trans e8'
                have FN := Lib.hid (And.intro n8 m8)
                have RN := Lib.hid (rd_of_owns o8)
                clear n8 m8 o8 e8'
                go_wp2_with fail
                refine (incs_at _ _ t false _ RN.out (by rw [FN.out.2]; exact HMX.out)).mono ?_
                rintro e w9 ⟨rfl, e9'⟩
                have RN := Lib.hid (RN.out.ext e9')
                have e9 : Ext w w9 := e8.trans e9'
                clear e9'
                go_wp2_with fail
                refine (union_per a b _ _ _ (HA.out.ext e9) (HB.out.ext e9) (by omega)).mono ?_
                rintro e w10 ⟨v10, l10, rfl, n10, m10, o10, e10'⟩
                have RN := Lib.hid (RN.out.ext e10')
                have e10 : Ext w w10 := e9.trans e10'
                have FU := Lib.hid (And.intro n10 m10)
                have RU := Lib.hid (rd_of_owns o10)
                clear n10 m10 o10 e10'
                go_wp2_with fail
                refine (incs_at _ _ t true _ RU.out (by rw [FU.out.2, HMX.out, HMY.out]; rfl)).mono ?_
                rintro e w11 ⟨rfl, e11'⟩
                have RN := Lib.hid (RN.out.ext e11')
                have RU := Lib.hid (RU.out.ext e11')
                have e11 : Ext w w11 := e10.trans e11'
                clear e11'
                go_wp2_with fail
                refine (inter_per a b _ _ _ (HA.out.ext e11) (HB.out.ext e11) (by omega) (by omega)).mono ?_
                rintro e w12 ⟨v12, l12, rfl, n12, m12, o12, e12'⟩
                have RN := Lib.hid (RN.out.ext e12')
                have RU := Lib.hid (RU.out.ext e12')
                have e12 : Ext w w12 := e11.trans e12'
                have FI := Lib.hid (And.intro n12 m12)
                have RI := Lib.hid (rd_of_owns o12)
                clear n12 m12 o12 e12'
                go_wp2_with fail
                refine (incs_at _ _ t false _ RI.out (by rw [FI.out.2, andB, HMX.out, HMY.out]; rfl)).mono ?_
                rintro e w13 ⟨rfl, e13'⟩
                have RN := Lib.hid (RN.out.ext e13')
                have RU := Lib.hid (RU.out.ext e13')
                have RI := Lib.hid (RI.out.ext e13')
                have e13 : Ext w w13 := e12.trans e13'
                clear e13'
                go_wp2_with fail
                refine (subt_per a b _ _ _ (HA.out.ext e13) (HB.out.ext e13) (by omega) (by omega)).mono ?_
                rintro e w14 ⟨v14, l14, rfl, n14, m14, o14, e14'⟩
                have RN := Lib.hid (RN.out.ext e14')
                have RU := Lib.hid (RU.out.ext e14')
                have RI := Lib.hid (RI.out.ext e14')
                have e14 : Ext w w14 := e13.trans e14'
                have FD := Lib.hid (And.intro n14 m14)
                have RD := Lib.hid (rd_of_owns o14)
                clear n14 m14 o14 e14'
                go_wp2_with fail
                refine (incs_at _ _ t false _ RD.out (by rw [FD.out.2, subB, HMX.out, HMY.out]; rfl)).mono ?_
                rintro e w15 ⟨rfl, e15'⟩
                have RN := Lib.hid (RN.out.ext e15')
                have RU := Lib.hid (RU.out.ext e15')
                have RI := Lib.hid (RI.out.ext e15')
                have RD := Lib.hid (RD.out.ext e15')
                have e15 : Ext w w15 := e14.trans e15'
                clear e15'
                go_wp2_with fail
                go_ret
                exact ⟨rfl, e15⟩
            · have HMX := HMX0
              cases Y
              · have HMY := HMY0
                go_wp2_with fail
                refine (awake_law _).mono ?_
                rintro e w6 ⟨rfl, e6'⟩
                have e6 : Ext w w6 := e5.trans e6'
                clear e6'
                go_wp2_with fail
                refine (incs_at _ _ t true _ (HA.out.ext e6) (by exact HMX.out)).mono ?_
                rintro e w7 ⟨rfl, e7'⟩
                have e7 : Ext w w7 := e6.trans e7'
                clear e7'
                go_wp2_with fail
                refine (norm_per a _ _ (HA.out.ext e7) (by omega)).mono ?_
                rintro e w8 ⟨v8, l8, rfl, n8, m8, o8, e8'⟩
                have e8 : Ext w w8 := e7.trans e8'
                have FN := Lib.hid (And.intro n8 m8)
                have RN := Lib.hid (rd_of_owns o8)
                clear n8 m8 o8 e8'
                go_wp2_with fail
                refine (incs_at _ _ t true _ RN.out (by rw [FN.out.2]; exact HMX.out)).mono ?_
                rintro e w9 ⟨rfl, e9'⟩
                have RN := Lib.hid (RN.out.ext e9')
                have e9 : Ext w w9 := e8.trans e9'
                clear e9'
                go_wp2_with fail
                refine (union_per a b _ _ _ (HA.out.ext e9) (HB.out.ext e9) (by omega)).mono ?_
                rintro e w10 ⟨v10, l10, rfl, n10, m10, o10, e10'⟩
                have RN := Lib.hid (RN.out.ext e10')
                have e10 : Ext w w10 := e9.trans e10'
                have FU := Lib.hid (And.intro n10 m10)
                have RU := Lib.hid (rd_of_owns o10)
                clear n10 m10 o10 e10'
                go_wp2_with fail
                refine (incs_at _ _ t true _ RU.out (by rw [FU.out.2, HMX.out, HMY.out]; rfl)).mono ?_
                rintro e w11 ⟨rfl, e11'⟩
                have RN := Lib.hid (RN.out.ext e11')
                have RU := Lib.hid (RU.out.ext e11')
                have e11 : Ext w w11 := e10.trans e11'
                clear e11'
                go_wp2_with fail
                refine (inter_per a b _ _ _ (HA.out.ext e11) (HB.out.ext e11) (by omega) (by omega)).mono ?_
                rintro e w12 ⟨v12, l12, rfl, n12, m12, o12, e12'⟩
                have RN := Lib.hid (RN.out.ext e12')
                have RU := Lib.hid (RU.out.ext e12')
                have e12 : Ext w w12 := e11.trans e12'
                have FI := Lib.hid (And.intro n12 m12)
                have RI := Lib.hid (rd_of_owns o12)
                clear n12 m12 o12 e12'
                go_wp2_with fail
                refine (incs_at _ _ t false _ RI.out (by rw [FI.out.2, andB, HMX.out, HMY.out]; rfl)).mono ?_
                rintro e w13 ⟨rfl, e13'⟩
                have RN := Lib.hid (RN.out.ext e13')
                have RU := Lib.hid (RU.out.ext e13')
                have RI := Lib.hid (RI.out.ext e13')
                have e13 : Ext w w13 := e12.trans e13'
                clear e13'
                go_wp2_with fail
                refine (subt_per a b _ _ _ (HA.out.ext e13) (HB.out.ext e13) (by omega) (by omega)).mono ?_
                rintro e w14 ⟨v14, l14, rfl, n14, m14, o14, e14'⟩
                have RN := Lib.hid (RN.out.ext e14')
                have RU := Lib.hid (RU.out.ext e14')
                have RI := Lib.hid (RI.out.ext e14')
                have e14 : Ext w w14 := e13.trans e14'
                have FD := Lib.hid (And.intro n14 m14)
                have RD := Lib.hid (rd_of_owns o14)
                clear n14 m14 o14 e14'
                go_wp2_with fail
                refine (incs_at _ _ t true _ RD.out (by rw [FD.out.2, subB, HMX.out, HMY.out]; rfl)).mono ?_
                rintro e w15 ⟨rfl, e15'⟩
                have RN := Lib.hid (RN.out.ext e15')
                have RU := Lib.hid (RU.out.ext e15')
                have RI := Lib.hid (RI.out.ext e15')
                have RD := Lib.hid (RD.out.ext e15')
                have e15 : Ext w w15 := e14.trans e15'
                clear e15'
                go_wp2_with fail
                go_ret
                exact ⟨rfl, e15⟩
              · have HMY := HMY0
                go_wp2_with fail
                refine (awake_law _).mono ?_
                rintro e w6 ⟨rfl, e6'⟩
                have e6 : Ext w w6 := e5.trans e6'
                clear e6'
                go_wp2_with fail
                refine (incs_at _ _ t true _ (HA.out.ext e6) (by exact HMX.out)).mono ?_
                rintro e w7 ⟨rfl, e7'⟩
                have e7 : Ext w w7 := e6.trans e7'
                clear e7'
                go_wp2_with fail
                refine (norm_per a _ _ (HA.out.ext e7) (by omega)).mono ?_
                rintro e w8 ⟨v8, l8, rfl, n8, m8, o8, e8'⟩
                have e8 : Ext w w8 := e7.trans e8'
                have FN := Lib.hid (And.intro n8 m8)
                have RN := Lib.hid (rd_of_owns o8)
                clear n8 m8 o8 e8'
                go_wp2_with fail
                refine (incs_at _ _ t true _ RN.out (by rw [FN.out.2]; exact HMX.out)).mono ?_
                rintro e w9 ⟨rfl, e9'⟩
                have RN := Lib.hid (RN.out.ext e9')
                have e9 : Ext w w9 := e8.trans e9'
                clear e9'
                go_wp2_with fail
                refine (union_per a b _ _ _ (HA.out.ext e9) (HB.out.ext e9) (by omega)).mono ?_
                rintro e w10 ⟨v10, l10, rfl, n10, m10, o10, e10'⟩
                have RN := Lib.hid (RN.out.ext e10')
                have e10 : Ext w w10 := e9.trans e10'
                have FU := Lib.hid (And.intro n10 m10)
                have RU := Lib.hid (rd_of_owns o10)
                clear n10 m10 o10 e10'
                go_wp2_with fail
                refine (incs_at _ _ t true _ RU.out (by rw [FU.out.2, HMX.out, HMY.out]; rfl)).mono ?_
                rintro e w11 ⟨rfl, e11'⟩
                have RN := Lib.hid (RN.out.ext e11')
                have RU := Lib.hid (RU.out.ext e11')
                have e11 : Ext w w11 := e10.trans e11'
                clear e11'
                go_wp2_with fail
                refine (inter_per a b _ _ _ (HA.out.ext e11) (HB.out.ext e11) (by omega) (by omega)).mono ?_
                rintro e w12 ⟨v12, l12, rfl, n12, m12, o12, e12'⟩
                have RN := Lib.hid (RN.out.ext e12')
                have RU := Lib.hid (RU.out.ext e12')
                have e12 : Ext w w12 := e11.trans e12'
                have FI := Lib.hid (And.intro n12 m12)
                have RI := Lib.hid (rd_of_owns o12)
                clear n12 m12 o12 e12'
                go_wp2_with fail
                refine (incs_at _ _ t true _ RI.out (by rw [FI.out.2, andB, HMX.out, HMY.out]; rfl)).mono ?_
                rintro e w13 ⟨rfl, e13'⟩
                have RN := Lib.hid (RN.out.ext e13')
                have RU := Lib.hid (RU.out.ext e13')
                have RI := Lib.hid (RI.out.ext e13')
                have e13 : Ext w w13 := e12.trans e13'
                clear e13'
                go_wp2_with fail
                refine (subt_per a b _ _ _ (HA.out.ext e13) (HB.out.ext e13) (by omega) (by omega)).mono ?_
                rintro e w14 ⟨v14, l14, rfl, n14, m14, o14, e14'⟩
                have RN := Lib.hid (RN.out.ext e14')
                have RU := Lib.hid (RU.out.ext e14')
                have RI := Lib.hid (RI.out.ext e14')
                have e14 : Ext w w14 := e13.trans e14'
                have FD := Lib.hid (And.intro n14 m14)
                have RD := Lib.hid (rd_of_owns o14)
                clear n14 m14 o14 e14'
                go_wp2_with fail
                refine (incs_at _ _ t false _ RD.out (by rw [FD.out.2, subB, HMX.out, HMY.out]; rfl)).mono ?_
                rintro e w15 ⟨rfl, e15'⟩
                have RN := Lib.hid (RN.out.ext e15')
                have RU := Lib.hid (RU.out.ext e15')
                have RI := Lib.hid (RI.out.ext e15')
                have RD := Lib.hid (RD.out.ext e15')
                have e15 : Ext w w15 := e14.trans e15'
                clear e15'
                go_wp2_with fail
                go_ret
                exact ⟨rfl, e15⟩
  · go_enter Try.func5, Try.ntmps5
    go_wp2_with fail
    refine (few_no a b _ _ _ HA.out HB.out hl).mono ?_
    rintro e w0 ⟨rfl, rfl⟩
    go_wp2_with fail
    refine (awake_law _).mono ?_
    rintro e w1 ⟨rfl, e1⟩
    go_wp2_with fail
    go_ret
    exact ⟨rfl, e1⟩
end Go.Proofs.Ytckknhocmbhmhaa
