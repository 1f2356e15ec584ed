/- The law ExprPrefix, in full. -/
import Derived.Test.YtdamlnfjhpmpmaaLx2
namespace Go.Proofs.Ytdamlnfjhpmpmaa
open Go.ChangeShapes Go.WideShapes Go.ChangeAt Go.RowKit

theorem col_same (l more : List X) (r : Nat) (hr : r < l.length) (a b : List Int) (ha : Asc a) (hb : Asc b) (h1 : ∀ c, c ∈ a ↔ isIx (r : Int) l.length = true ∧ Uses l (r : Int).toNat c) (h2 : ∀ c, c ∈ b ↔ isIx (r : Int) (l ++ more).length = true ∧ Uses (l ++ more) (r : Int).toNat c) : b = a := by
  have e1 : isIx (r : Int) ((l ++ more).length : Nat) = true := (isIx_iff _ _).2 ⟨by omega, by rw [List.length_append]; omega⟩
  have e2 : isIx (r : Int) (l.length : Nat) = true := (isIx_iff _ _).2 ⟨by omega, by omega⟩
  refine asc_unique b a hb ha fun c => ?_
  rw [h1 c, h2 c, e1, e2]
  have := uses_app l more r hr c
  simpa using this
set_option maxHeartbeats 8000000 in
set_option maxRecDepth 100000 in
theorem prefix_main (l more : List X) (r : Nat) (row : List V) (vl vm vr : Value) (w : World) (rl : RdG w vl l) (rm : RdG w vm more) (rr : RdG w vr row) (ox : OkX l) (om : OkX more) (okr : OkR row)
    (h : fewB l.length row.length = true) (h2 : (l.length : Int) + more.length ≤ 200) (hr : r < l.length) :
    Calls Try.prog 8 #[vl, vm, .int .i64 r, vr] w fun e w' => e = .returned (.bool true) ∧ Ext w w' := by
  have hF := few_law l vl row.length w rl
  rw [h] at hF
  obtain ⟨hl1, hr1⟩ := few_yes h
  have hall : (l ++ more).length ≤ 1000 := by rw [List.length_append]; omega
  have hE1 := fun w' a b => eval_prg l r row vl vr w' a b (by omega) ox okr
  have hE2 := fun v w' a b => eval_prg (l ++ more) r row v vr w' a b hall (okX_app ox om) okr
  have hC1 := fun v w' a b => check_prg l r (kds row) vl v w' a b
  have hC2 := fun u v w' a b => check_prg (l ++ more) r (kds row) u v w' a b
  have hK1 := fun w' a => col_prg l r vl w' a (by omega)
  have hK2 := fun v w' a => col_prg (l ++ more) r v w' a hall
  rw [chk_app l more r (kds row) hr (by omega)] at hC2
  rw [evl_app l more r row hr] at hE2
  generalize chkV l r (kds row) = pq at *
  obtain ⟨p, q⟩ := pq
  generalize evlV l r row = ev at *
  obtain ⟨ek, en, es⟩ := ev
  obtain ⟨al, cl, rfl, l1, l2⟩ := rl.shape
  obtain ⟨am, cm, rfl, m1, m2⟩ := rm.shape
  obtain ⟨ar, cr, rfl, r1, r2⟩ := rr.shape
  unfold maxLen at l2 m2 r2
  have HF := Lib.hid hF
  have HE1 := Lib.hid hE1
  have HE2 := Lib.hid hE2
  have HC1 := Lib.hid hC1
  have HC2 := Lib.hid hC2
  have HK1 := Lib.hid hK1
  have HK2 := Lib.hid hK2
  have RL := Lib.hid rl
  have RM := Lib.hid rm
  have RR := Lib.hid rr
  have HR := Lib.hid hr
  clear l1 l2 m1 m2 r1 r2
  have hw : wrap64 ((l.length : Int) + more.length) = (l.length : Int) + more.length := by unfold wrap64; omega
  have d1 : decide (200 < (l.length : Int) + more.length) = false := by simpa using h2
  have d2 : decide ((r : Int) < 0) = false := by simp
  have d3 : decide ((l.length : Int) ≤ (r : Int)) = false := by simp; omega
  have d4 : decide (l.length ≤ r) = false := by simp; omega
  obtain ⟨n, hn⟩ : ∃ n, n = row.length := ⟨_, rfl⟩
  have HN := Lib.hid hn
  rw [← hn] at RR HF hr1 HE1 HE2 ⊢
  have H2 := Lib.hid h2
  clear hF hE1 hE2 hC1 hC2 hK1 hK2 rl rm rr ox om okr h hr hn hall h2
  go_enter Try.func8, Try.ntmps8
  go_wp2_with fail
  refine HF.out.mono ?_; rintro e w1 ⟨rfl, rfl⟩
  go_wp2_with fail
  simp only [hw]
  clear hw
  go_loopw [9, 43] (PxR w row) (fun _ i _ => n - (intOf i).toNat)
  case atStart => exact ⟨0, by omega, rfl, OwnG.nil _ _ _ (Ext.refl _)⟩
  case round =>
    obtain ⟨k, hk, rfl, hO⟩ := hrel
    rw [← HN.out] at hk
    by_cases hlt : k < n
    · have hi0 : (0 : Int) ≤ (k : Int) := by omega
      have hi1 : (k : Int) < (n : Int) := by omega
      have hkr : k < row.length := by rw [← HN.out]; exact hlt
      obtain ⟨g, o, rfl, c0, c1, c2⟩ := rd_V RR.out k hkr
      have C0 := hO.2.keeps c0
      have C1 := hO.2.keeps c1
      have C2 := hO.2.keeps c2
      have hks := kds_succ row k hkr
      generalize row[k] = x at *
      obtain ⟨xk, xn, xs⟩ := x
      simp only at C0 C1 C2 hks
      have HKS := Lib.hid hks
      have HKL := Lib.hid (show (kds (row.take k)).length ≤ 1000 by rw [kds_len, List.length_take]; omega)
      clear c0 c1 c2 hks
      go_wp2_with (at_builtin; refine appG tI rfl _ _ rfl w _ (kds (row.take k)) rfl ((hO.ext ((Ext.refl _).alloc _ _)).ext ((Ext.refl _).alloc _ _)) _ [xk] rfl (rd_lit1I _ xk _ _ (by simp)) (by have := HKL.out; simp; omega) ?_; intro v' w' hO' hg')
      go_roundw
      case rel => exact ⟨k + 1, by omega, by go_num, by rw [HKS.out]; exact hO'⟩
      case measure => simp [intOf]; omega
    · have hke : k = n := by omega
      subst hke
      have hend : decide ((k : Int) < (k : Int)) = false := by simp
      rw [HN.out, List.take_length] at hO
      have HO := Lib.hid hO
      have RLr := Lib.hid (RL.out.ext hO.2)
      clear hO
      go_wp2_with (first
        | (at_builtin; refine appG tX rfl _ _ rfl wr _ l rfl hO1 _ more rfl ((RM.out.ext HO.out.2).ext hO1.2) (by have := H2.out; omega) ?_; intro v2 w3 hO2 hg2; obtain ⟨a2, c2, rfl, -, -⟩ := hO2.rd.shape; generalize (l ++ more).length = nn at hO2 ⊢)
        | (at_builtin; refine appG tX rfl _ _ rfl wr _ [] rfl (OwnG.nil _ _ _ (Ext.refl _)) _ l rfl RLr.out (by simp; omega) ?_; intro v1 w2 hO1 hg1; rw [List.nil_append] at hO1; clear hg1))
      have HO2 := Lib.hid hO2
      clear hO2 hg2
      refine (HC1.out _ _ (RL.out.ext (HO.out.2.trans HO2.out.2)) (HO.out.ext HO2.out.2).rd).mono ?_; rintro e w4 ⟨rfl, hE4⟩
      have E4 := Lib.hid hE4
      clear hE4
      go_wp2_with fail
      refine (HC2.out _ _ _ (HO2.out.ext E4.out).rd ((HO.out.ext HO2.out.2).ext E4.out).rd).mono ?_; rintro e w5 ⟨rfl, hE5⟩
      have E5 := Lib.hid (E4.out.trans hE5)
      clear hE5
      go_wp2_with fail
      refine (awake_law _).mono ?_; rintro e w6 ⟨rfl, hE6⟩
      have E6 := Lib.hid (E5.out.trans hE6)
      clear hE6
      go_wp2_with fail
      refine (HE1.out _ (RL.out.ext (HO.out.2.trans (HO2.out.2.trans E6.out))) (RR.out.ext (HO.out.2.trans (HO2.out.2.trans E6.out)))).mono ?_; rintro e w7 ⟨rfl, hE7⟩
      have E7 := Lib.hid (E6.out.trans hE7)
      clear hE7
      go_wp2_with fail
      refine (HE2.out _ _ (HO2.out.ext E7.out).rd (RR.out.ext (HO.out.2.trans (HO2.out.2.trans E7.out)))).mono ?_; rintro e w8 ⟨rfl, hE8⟩
      have E8 := Lib.hid (E7.out.trans hE8)
      clear hE8
      go_wp2_with fail
      refine (HK1.out _ (RL.out.ext (HO.out.2.trans (HO2.out.2.trans E8.out)))).mono ?_; rintro e w9 ⟨u1, cs1, rfl, ru1, hE9, as1, hm1⟩
      have E9 := Lib.hid (E8.out.trans hE9)
      clear hE9
      obtain ⟨aa1, cc1, rfl, _, _⟩ := ru1.shape
      have RU1 := Lib.hid ru1
      have AS1 := Lib.hid as1
      have HM1 := Lib.hid hm1
      clear ru1 as1 hm1
      go_wp2_with fail
      refine (HK2.out _ _ (HO2.out.ext E9.out).rd).mono ?_; rintro e w10 ⟨u2, cs2, rfl, ru2, hE10, as2, hm2⟩
      obtain rfl := col_same l more r HR.out cs1 cs2 AS1.out as2 HM1.out hm2
      have hS := same_ints cs2 _ _ w10 (RU1.out.ext hE10) ru2
      obtain ⟨aa2, cc2, rfl, _, _⟩ := ru2.shape
      have HS := Lib.hid hS
      have E10 := Lib.hid (HO.out.2.trans (HO2.out.2.trans (E9.out.trans hE10)))
      clear hS ru2 hE10 as2 hm2
      go_wp2_with fail
      refine HS.out.mono ?_; rintro e w11 ⟨rfl, hE11⟩
      go_wp2_with fail
      go_ret
      exact ⟨by simp, E10.out.trans hE11⟩
theorem law_ExprPrefix (l more : List X) (root : Int) (row : List V) (vl vm vr : Value) (w : World) (rl : RdG w vl l) (rm : RdG w vm more) (rr : RdG w vr row) (ox : OkX l) (om : OkX more) (okr : OkR row) (hM : (l.length : Int) + more.length ≤ 9223372036854775807) :
    Calls Try.prog 8 #[vl, vm, .int .i64 root, vr] w fun e w' => e = .returned (.bool true) ∧ Ext w w' := by
  cases h : fewB l.length row.length with
  | false => exact prefix_few l more root row vl vm vr w rl rm rr hM (.inl h)
  | true =>
    by_cases h2 : 200 < (l.length : Int) + more.length
    · exact prefix_few l more root row vl vm vr w rl rm rr hM (.inr (.inl ⟨h, h2⟩))
    by_cases h3 : root < 0
    · exact prefix_few l more root row vl vm vr w rl rm rr hM (.inr (.inr (.inl ⟨h, h2, h3⟩)))
    by_cases h4 : (l.length : Int) ≤ root
    · exact prefix_few l more root row vl vm vr w rl rm rr hM (.inr (.inr (.inr ⟨h, h2, h3, h4⟩)))
    obtain ⟨r, rfl⟩ := nat_of (show (0 : Int) ≤ root by omega)
    exact prefix_main l more r row vl vm vr w rl rm rr ox om okr h (by omega) (by omega)
end Go.Proofs.Ytdamlnfjhpmpmaa
