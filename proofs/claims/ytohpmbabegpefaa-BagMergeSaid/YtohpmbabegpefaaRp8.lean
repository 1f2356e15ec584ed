/- The reference's Equal, surplus and Diff. -/
import Derived.Test.YtohpmbabegpefaaRs8
import Derived.Test.YtohpmbabegpefaaLs9
namespace Go.Proofs.Ytohpmbabegpefaa
open Go.ChangeShapes Go.WideShapes Go.ChangeAt Go.RowKit

set_option maxHeartbeats 1000000 in
theorem equal_ref (ps qs : List P) (va vb : Value) (w : World) (ha : RdG w va ps) (hb : RdG w vb qs) (ia : RdAll w ps) (ib : RdAll w qs) (la : ps.length ≤ 1000000) (lb : qs.length ≤ 1000000) :
    Calls Try.prog 15 #[va, vb] w fun e w' => e = .returned (.bool (eqB (rows ps) (rows qs))) ∧ Ext w w' := by
  have HA := Lib.hid ha
  have HB := Lib.hid hb
  have IA := Lib.hid ia
  have IB := Lib.hid ib
  have LA := Lib.hid la
  have LB := Lib.hid lb
  clear ha hb ia ib la lb
  go_enter Try.func15, Try.ntmps15
  go_wp2_with fail
  refine (sort_ref _ ps _ w HA.out IA.out (Nat.le_refl _) LA.out).mono ?_; rintro e w1 ⟨v1, qa, rfl, hO, hp, hr⟩
  have HO := Lib.hid hO
  have HP := Lib.hid hp
  have HR := Lib.hid hr
  clear hO hp hr
  go_wp2_with fail
  refine (sort_ref _ qs _ w1 (HB.out.ext HO.out.2) (IB.out.ext HO.out.2) (Nat.le_refl _) LB.out).mono ?_; rintro e w2 ⟨v2, qb, rfl, hO2, hp2, hr2⟩
  have HO2 := Lib.hid hO2
  have HP2 := Lib.hid hp2
  have HR2 := Lib.hid hr2
  clear hO2 hp2 hr2
  go_wp2_with fail
  refine (sameRows_ref qa qb v1 v2 w2 (HO.out.rd.ext HO2.out.2) HO2.out.rd (fun p hp => (IA.out p (HP.out.mem_iff.1 hp)).ext (HO.out.2.trans HO2.out.2)) (fun p hp => (IB.out p (HP2.out.mem_iff.1 hp)).ext (HO.out.2.trans HO2.out.2))).mono ?_
  rintro e w3 ⟨rfl, hg⟩
  go_wp2_with fail
  go_ret
  exact ⟨ret_bool (by rw [HR.out, HR2.out]; rfl), (HO.out.2.trans HO2.out.2).trans hg⟩
theorem sur_step (S : List R) (hS : SrtV S) (f : List V → Nat) (ii jj : Nat) (v : List V) (hii : ii < S.length) (hv : S[ii].v = v) (h1 : ii ≤ jj) (h2 : jj ≤ S.length) (heq : ∀ (t : Nat) (ht : t < S.length), ii ≤ t → t < jj → S[t].v = v)
    (hend : ∀ h : jj < S.length, S[jj].v ≠ v) : sur f (S.drop ii) = (S.drop (ii + f v)).take (jj - (ii + f v)) ++ sur f (S.drop jj) := by
  have e1 : S.drop ii = (S.drop ii).take (jj - ii) ++ S.drop jj := by
    have := (List.take_append_drop (jj - ii) (S.drop ii)).symm
    rw [List.drop_drop, show ii + (jj - ii) = jj by omega] at this
    exact this
  have hr : ∀ x ∈ S.drop jj, x.v ≠ v := by
    by_cases hj : jj < S.length
    · have hne := hend hj
      have hd : S.drop jj = S[jj] :: S.drop (jj + 1) := List.drop_eq_getElem_cons hj
      have hsd : SrtV (S[jj] :: S.drop (jj + 1)) := by rw [← hd]; exact List.Pairwise.sublist (List.drop_sublist _ _) hS
      have hij : ii ≠ jj := fun e => by subst e; exact hne hv
      have hle := List.pairwise_iff_getElem.1 hS ii jj hii hj (by omega)
      have hlt : cmpR S[ii].v S[jj].v = -1 := by
        have := cr_ord.vals S[ii].v S[jj].v
        have h0 : cmpR S[ii].v S[jj].v ≠ 0 := fun e => hne (((cr_ord.zero _ _).1 e).symm.trans hv)
        omega
      rw [hd, ← hv]
      exact lt_all hlt hsd
    · rw [List.drop_eq_nil_of_le (by omega)]
      intro x hx; cases hx
  have hg : ∀ x ∈ (S.drop ii).take (jj - ii), x.v = v := by
    intro x hx
    obtain ⟨t, ht, rfl⟩ := List.mem_iff_getElem.1 hx
    rw [List.length_take, List.length_drop] at ht
    rw [List.getElem_take, List.getElem_drop]
    exact heq (ii + t) (by omega) (by omega) (by omega)
  conv => lhs; rw [e1]
  rw [sur_group v (S.drop jj) hr _ hg f, List.drop_take, List.drop_drop, Nat.sub_sub]
/-- what surplus returns -/
def RuP (w : World) (ps : List P) (f : List V → Nat) (e : Ending) (w' : World) : Prop := ∃ v' os, e = .returned v' ∧ OwnG tP.e w w' v' os ∧ (∀ p ∈ os, p ∈ ps) ∧ rows os = sur f (sortR (rows ps))
def RuR (W : World) (sa : List P) (f : List V → Nat) (vo i : Value) (wr : World) : Prop := ∃ (ii : Nat) (os : List P), ii ≤ sa.length ∧ i = .int .i64 ii ∧ OwnG tP.e W wr vo os ∧ Hid (∀ p ∈ os, p ∈ sa) ∧ Hid (rows os ++ sur f ((rows sa).drop ii) = sur f (rows sa)) ∧ os.length ≤ ii
def RuR2 (wA : World) (S : List R) (ii : Nat) (v : List V) (j : Value) (wr : World) : Prop := ∃ jj : Nat, ii ≤ jj ∧ jj ≤ S.length ∧ j = .int .i64 jj ∧ Hid (∀ (t : Nat) (ht : t < S.length), ii ≤ t → t < jj → S[t].v = v) ∧ Ext wA wr
theorem ru_start (S : List R) (ii : Nat) (v : List V) : ∀ (t : Nat) (ht : t < S.length), ii ≤ t → t < ii → S[t].v = v := fun t _ h1 h2 => by omega
theorem ru_next (S : List R) (ii jj : Nat) (v : List V) (hj : jj < S.length) (h : ∀ (t : Nat) (ht : t < S.length), ii ≤ t → t < jj → S[t].v = v) (hv : S[jj].v = v) : ∀ (t : Nat) (ht : t < S.length), ii ≤ t → t < jj + 1 → S[t].v = v := fun t ht h1 h2 => by
  by_cases e : t = jj
  · subst e; exact hv
  · exact h t ht h1 (by omega)
theorem RdG.mid {w : World} {g o n cap i j : Nat} {l : List P} (h : RdG w (.slice (some ⟨g, o, none⟩) n cap) l) (hi : i ≤ j) (hj : j ≤ n) : RdG w (.slice (some ⟨g, o + i * 2, none⟩) (j - i) (cap - i)) ((l.drop i).take (j - i)) := by
  have h1 := h.drop (show i ≤ n by omega)
  have hn := h.len.1
  exact h1.take (j - i) (by rw [List.length_drop]; omega)
set_option maxHeartbeats 8000000 in
set_option maxRecDepth 100000 in
theorem surplus_ref (ps qs : List P) (va vb : Value) (w : World) (ha : RdG w va ps) (hb : RdG w vb qs) (ia : RdAll w ps) (ib : RdAll w qs) (la : ps.length ≤ 1000000) (lb : qs.length ≤ 1000000) :
    Calls Try.prog 31 #[va, vb] w (RuP w ps (cnt (rows qs))) := by
  have HA := Lib.hid ha
  have HB := Lib.hid hb
  have IA := Lib.hid ia
  have IB := Lib.hid ib
  have LA := Lib.hid la
  have LB := Lib.hid lb
  have hcl : ∀ v, cnt (rows qs) v ≤ 1000000 := fun v => Nat.le_trans (cnt_le _ _) (by rw [rows_len]; exact lb)
  have HCL := Lib.hid hcl
  clear ha hb ia ib la lb hcl
  obtain ⟨f, hf⟩ : ∃ f, f = cnt (rows qs) := ⟨_, rfl⟩
  rw [← hf] at HCL ⊢
  have HF := Lib.hid hf
  clear hf
  go_enter Try.func31, Try.ntmps31
  go_wp2_with fail
  refine (sort_ref _ ps _ w HA.out IA.out (Nat.le_refl _) LA.out).mono ?_; rintro e w1 ⟨v1, sa, rfl, hO, hp, hr⟩
  obtain ⟨a1, c1, rfl, h1, h2⟩ := hO.rd.shape
  have HR := Lib.hid hO.rd
  have HE := Lib.hid hO.2
  have HP := Lib.hid hp
  have HS := Lib.hid hr
  have HI := Lib.hid (show RdAll w1 sa from fun p h => (IA.out p (hp.mem_iff.1 h)).ext hO.2)
  have HSV := Lib.hid (show SrtV (rows sa) by rw [hr]; exact (sortR_srtd _).vals)
  have hsl : sa.length ≤ 1000000 := by rw [hp.length_eq]; exact LA.out
  have HSL := Lib.hid hsl
  clear hO hp hr hsl
  unfold maxLen at h2
  obtain ⟨n, hn⟩ : ∃ n, n = sa.length := ⟨_, rfl⟩
  have HN := Lib.hid hn
  rw [← hn] at HR h1 HSL ⊢
  clear hn
  go_wp2_with fail
  go_loopw [5, 6] (RuR w1 sa f) (fun _ i _ => n - (intOf i).toNat)
  case atStart => exact ⟨0, [], Nat.zero_le _, rfl, OwnG.nil _ _ _ (Ext.refl _), Lib.hid (fun p h => by cases h), Lib.hid (by simp [rows]), Nat.le_refl _⟩
  case round =>
    obtain ⟨wA, rfl⟩ : ∃ z, z = wr := ⟨_, rfl⟩
    obtain ⟨ii, os, hii, rfl, hO, hM, hS, hol⟩ := hrel
    have hin : ii ≤ n := by rw [HN.out]; exact hii
    by_cases hlt : ii < n
    · have hlt' : ii < sa.length := by rw [← HN.out]; exact hlt
      have hltr : ii < (rows sa).length := by rw [rows_len]; exact hlt'
      have hi0 : (0 : Int) ≤ (ii : Int) := Int.natCast_nonneg _
      have hi1 : (ii : Int) < (n : Int) := by omega
      have hi9 : decide ((ii : Int) < (n : Int)) = true := by simpa using hi1
      obtain ⟨g, o, rfl, c0', c1'⟩ := rd_P HR.out ii hlt'
      have c0 := hO.2.keeps c0'
      have hix := HI.out sa[ii] (List.getElem_mem _)
      have HXR := Lib.hid (show (rows sa)[ii].v = sa[ii].r.v by rw [rows_at sa ii hlt'])
      clear c0' c1'
      generalize sa[ii] = x at *
      obtain ⟨⟨xa, xn, xc, xb, xm, xd⟩, xr⟩ := x
      simp only [Hd.x] at c0 HXR
      have HIX := Lib.hid (show ∀ w2, Ext w1 w2 → RdG w2 (.slice xa xn xc) xr.v from fun w2 hg => hix.1.ext hg)
      have C0 := Lib.hid c0
      have HO := Lib.hid hO
      clear hix hO
      go_wp2_with fail
      go_loopw [7] (RuR2 wA (rows sa) ii xr.v) (fun j _ => n - (intOf j).toNat)
      case atStart => exact ⟨ii, Nat.le_refl _, by rw [rows_len]; exact hii, rfl, Lib.hid (ru_start _ _ _), Ext.refl _⟩
      case round =>
        obtain ⟨jj, hj1, hj2, rfl, hT, hX⟩ := hrel
        rw [rows_len] at hj2
        have hjn : jj ≤ n := by rw [HN.out]; exact hj2
        have c0 := hX.keeps C0.out
        by_cases hjl : jj < n
        · have hjl' : jj < sa.length := by rw [← HN.out]; exact hjl
          have hjr : jj < (rows sa).length := by rw [rows_len]; exact hjl'
          have hj0 : (0 : Int) ≤ (jj : Int) := Int.natCast_nonneg _
          have hji : (jj : Int) < (n : Int) := by omega
          obtain ⟨g', o', hge, d0', _⟩ := rd_P HR.out jj hjl'
          injection hge with hge
          injection hge with hge1 hge2
          subst hge1 hge2
          have d0 := hX.keeps (HO.out.2.keeps d0')
          have hiy := HI.out sa[jj] (List.getElem_mem _)
          have HYR := Lib.hid (show (rows sa)[jj].v = sa[jj].r.v by rw [rows_at sa jj hjl'])
          clear d0'
          generalize sa[jj] = y at *
          obtain ⟨⟨ya, yn, yc, yb, ym, yd⟩, yr⟩ := y
          simp only [Hd.x] at d0 HYR
          have HIY := Lib.hid (show ∀ w2, Ext w1 w2 → RdG w2 (.slice ya yn yc) yr.v from fun w2 hg => hiy.1.ext hg)
          have K0 := Lib.hid d0
          have K1 := Lib.hid c0
          have HWX := Lib.hid (HO.out.2.trans hX)
          clear hiy
          have hcv := fun w2 (hg : Ext wr w2) => heldE wr (crowsG_ref yr.v xr.v _ _ w2 (HIY.out w2 (HWX.out.trans hg)) (HIX.out w2 (HWX.out.trans hg))) hg
          by_cases hz : yr.v = xr.v
          · have hc0 : cmpR yr.v xr.v = 0 := (cr_ord.zero _ _).2 hz
            rw [hc0] at hcv
            have HV := Lib.hid hcv
            have HT2 := Lib.hid (ru_next (rows sa) ii jj xr.v hjr hT.out (HYR.out.trans hz))
            clear hcv hc0 hz
            go_wp2_with fail
            go_region_held3 (fun w' => w'.cell? ⟨g, o + jj * 2, none⟩ = some (.slice ya yn yc) ∧ w'.cell? ⟨g, o + ii * 2, none⟩ = some (.slice xa xn xc)) (first | exact ⟨K0.out, K1.out⟩ | exact ⟨f0, f1⟩ | go_keep) (first | (go_at_call 32; refine (HV.out _ ?_).mono ?_; (first | assumption | exact Ext.refl _ | exact (Ext.refl _).drew); rintro e w3 ⟨rfl, q0, qG⟩; have f0 := qG.keeps K0.out; have f1 := qG.keeps K1.out))
            all_goals
              go_wp2_with fail
              go_roundw
              case rel => exact ⟨jj + 1, by omega, hjr, by go_num, HT2, hX.trans qG⟩
              case measure => simp [intOf]; omega
          · have hz0 : ¬ cmpR yr.v xr.v = 0 := fun e => hz ((cr_ord.zero _ _).1 e)
            have hz1 : (cmpR yr.v xr.v == 0) = false := by simpa using hz0
            have HV := Lib.hid hcv
            have HST := Lib.hid (sur_step (rows sa) HSV.out f ii jj xr.v hltr HXR.out hj1 (by omega) hT.out (fun _ => by rw [HYR.out]; exact hz))
            have hij : ii ≠ jj := fun e => by
              subst e
              exact hz (HYR.out.symm.trans HXR.out)
            clear hcv
            go_wp2_with fail
            go_region_held3 (fun w' => w'.cell? ⟨g, o + jj * 2, none⟩ = some (.slice ya yn yc) ∧ w'.cell? ⟨g, o + ii * 2, none⟩ = some (.slice xa xn xc)) (first | exact ⟨K0.out, K1.out⟩ | exact ⟨f0, f1⟩ | go_keep) (first | (go_at_call 32; refine (HV.out _ ?_).mono ?_; (first | assumption | exact Ext.refl _ | exact (Ext.refl _).drew); rintro e w3 ⟨rfl, q0, qG⟩; have f0 := qG.keeps K0.out; have f1 := qG.keeps K1.out))
            all_goals
              have HW3 := Lib.hid (hX.trans qG)
              clear hz0 hz1 hz K0 K1 d0 c0 HV q0
              go_wp2_with fail
              refine (mult_ref qs xr.v _ _ _ (HB.out.ext (HE.out.trans (HO.out.2.trans HW3.out))) (IB.out.ext (HE.out.trans (HO.out.2.trans HW3.out))) (HIX.out _ (HO.out.2.trans HW3.out))).mono ?_; rintro e w4 ⟨rfl, hg4⟩
              have hcf : cnt (rows qs) xr.v = f xr.v := by rw [HF.out]
              rw [hcf]
              have hcb := HCL.out xr.v
              have HW4 := Lib.hid (HW3.out.trans hg4)
              clear hcf hg4
              generalize f xr.v = c at hcb HST ⊢
              have hnb := HSL.out
              have hwr : IntKind.i64.wrap ((ii : Int) + (c : Int)) = (ii : Int) + (c : Int) := by simp only [IntKind.wrap, IntKind.bits, IntKind.signed]; simp; omega
              by_cases hgt : c < jj - ii
              · have hgt1 : (c : Int) < (jj : Int) - (ii : Int) := by omega
                have hl1 : (0 : Int) ≤ (ii : Int) + (c : Int) := by omega
                have hl2 : (ii : Int) + (c : Int) ≤ (jj : Int) := by omega
                have hl3 : (jj : Int) ≤ (c1 : Int) := by omega
                have hl4 : (ii : Int) + (c : Int) ≤ (c1 : Int) := by omega
                have hl0 : (0 : Int) ≤ (jj : Int) := by omega
                have hne : ¬ c1 = ii + c := by omega
                have HMID := Lib.hid (RdG.mid HR.out (show ii + c ≤ jj by omega) hjn)
                have hml : ((sa.drop (ii + c)).take (jj - (ii + c))).length = jj - (ii + c) := by rw [List.length_take, List.length_drop, ← HN.out]; omega
                have HML := Lib.hid hml
                clear hml
                go_wp2_with (at_builtin; refine appG tP rfl _ _ rfl w1 _ os rfl ?a1 _ ((sa.drop (ii + c)).take (jj - (ii + c))) rfl ?a2 ?a3 ?_; (case a1 => exact HO.out.ext HW4.out); (case a2 => first | exact HMID.out.ext (HO.out.2.trans HW4.out) | (trace_state; fail)); (case a3 => rw [HML.out]; have := HSL.out; omega); intro v5 w5 hO5 hg5)
                go_roundw
                case rel => exact ⟨jj, os ++ (sa.drop (ii + c)).take (jj - (ii + c)), by rw [← HN.out]; exact hjn, rfl, hO5, Lib.hid (fun p hp => by
                  rcases List.mem_append.1 hp with hp | hp
                  · exact hM.out p hp
                  · exact List.mem_of_mem_drop (List.mem_of_mem_take hp)), Lib.hid (by
                    rw [rows_app, rows_take, rows_drop, List.append_assoc, ← HST.out]; exact hS.out), by rw [List.length_append, HML.out]; omega⟩
                case measure => simp [intOf]; omega
              · have hgt1 : ¬ ((c : Int) < (jj : Int) - (ii : Int)) := by omega
                have HST2 := Lib.hid (show sur f ((rows sa).drop ii) = sur f ((rows sa).drop jj) by rw [HST.out, show jj - (ii + c) = 0 by omega]; simp)
                go_wp2_with fail
                go_roundw
                case rel => exact ⟨jj, os, by rw [← HN.out]; exact hjn, rfl, HO.out.ext HW4.out, hM, Lib.hid (by rw [← HST2.out]; exact hS.out), by omega⟩
                case measure => simp [intOf]; omega
        · have hje : jj = n := by omega
          have HST := Lib.hid (sur_step (rows sa) HSV.out f ii jj xr.v hltr HXR.out hj1 (by rw [rows_len]; exact hj2) hT.out (fun h => by rw [rows_len, ← HN.out] at h; omega))
          have hij : ii ≠ jj := by omega
          subst hje
          have hjd : decide ((jj : Int) < (jj : Int)) = false := by simp
          go_wp2_with fail
          go_quiet (fail)
          have HW3 := Lib.hid (show Ext wA (wr.drewN nq) from hX)
          go_wp2_with fail
          refine (mult_ref qs xr.v _ _ _ (HB.out.ext (HE.out.trans (HO.out.2.trans HW3.out))) (IB.out.ext (HE.out.trans (HO.out.2.trans HW3.out))) (HIX.out _ (HO.out.2.trans HW3.out))).mono ?_; rintro e w4 ⟨rfl, hg4⟩
          have hcf : cnt (rows qs) xr.v = f xr.v := by rw [HF.out]
          rw [hcf]
          have hcb := HCL.out xr.v
          have HW4 := Lib.hid (HW3.out.trans hg4)
          clear hcf hg4
          generalize f xr.v = c at hcb HST ⊢
          have hnb := HSL.out
          have hwr : IntKind.i64.wrap ((ii : Int) + (c : Int)) = (ii : Int) + (c : Int) := by simp only [IntKind.wrap, IntKind.bits, IntKind.signed]; simp; omega
          by_cases hgt : c < jj - ii
          · have hgt1 : (c : Int) < (jj : Int) - (ii : Int) := by omega
            have hl1 : (0 : Int) ≤ (ii : Int) + (c : Int) := by omega
            have hl2 : (ii : Int) + (c : Int) ≤ (jj : Int) := by omega
            have hl3 : (jj : Int) ≤ (c1 : Int) := by omega
            have hl4 : (ii : Int) + (c : Int) ≤ (c1 : Int) := by omega
            have hl0 : (0 : Int) ≤ (jj : Int) := by omega
            have hne : ¬ c1 = ii + c := by omega
            have HMID := Lib.hid (RdG.mid HR.out (show ii + c ≤ jj by omega) hjn)
            have hml : ((sa.drop (ii + c)).take (jj - (ii + c))).length = jj - (ii + c) := by rw [List.length_take, List.length_drop, ← HN.out]; omega
            have HML := Lib.hid hml
            clear hml
            go_wp2_with (at_builtin; refine appG tP rfl _ _ rfl w1 _ os rfl ?a1 _ ((sa.drop (ii + c)).take (jj - (ii + c))) rfl ?a2 ?a3 ?_; (case a1 => exact HO.out.ext HW4.out); (case a2 => first | exact HMID.out.ext (HO.out.2.trans HW4.out) | (trace_state; fail)); (case a3 => rw [HML.out]; have := HSL.out; omega); intro v5 w5 hO5 hg5)
            go_roundw
            case rel => exact ⟨jj, os ++ (sa.drop (ii + c)).take (jj - (ii + c)), by rw [← HN.out]; exact hjn, rfl, hO5, Lib.hid (fun p hp => by
              rcases List.mem_append.1 hp with hp | hp
              · exact hM.out p hp
              · exact List.mem_of_mem_drop (List.mem_of_mem_take hp)), Lib.hid (by
                rw [rows_app, rows_take, rows_drop, List.append_assoc, ← HST.out]; exact hS.out), by rw [List.length_append, HML.out]; omega⟩
            case measure => simp [intOf]; omega
          · have hgt1 : ¬ ((c : Int) < (jj : Int) - (ii : Int)) := by omega
            have HST2 := Lib.hid (show sur f ((rows sa).drop ii) = sur f ((rows sa).drop jj) by rw [HST.out, show jj - (ii + c) = 0 by omega]; simp)
            go_wp2_with fail
            go_roundw
            case rel => exact ⟨jj, os, by rw [← HN.out]; exact hjn, rfl, HO.out.ext HW4.out, hM, Lib.hid (by rw [← HST2.out]; exact hS.out), by omega⟩
            case measure => simp [intOf]; omega
    · have hie : ii = n := by omega
      have HX := Lib.hid (show rows os = sur f (rows sa) by
        have h1 := hS.out
        rw [List.drop_eq_nil_of_le (by rw [rows_len, ← HN.out]; omega)] at h1
        simpa [sur] using h1)
      go_wp2_with fail
      go_ret
      exact ⟨_, os, rfl, hO.base HE.out, fun p hp => HP.out.mem_iff.1 (hM.out p hp), by rw [HX.out, HS.out]⟩
set_option maxHeartbeats 1000000 in
theorem diff_ref (ps qs : List P) (va vb : Value) (w : World) (ha : RdG w va ps) (hb : RdG w vb qs) (ia : RdAll w ps) (ib : RdAll w qs) (la : ps.length ≤ 1000000) (lb : qs.length ≤ 1000000) :
    Calls Try.prog 17 #[va, vb] w (DP w (sur (cnt (rows qs)) (sortR (rows ps))) (sur (cnt (rows ps)) (sortR (rows qs)))) := by
  have HA := Lib.hid ha
  have HB := Lib.hid hb
  have IA := Lib.hid ia
  have IB := Lib.hid ib
  have LA := Lib.hid la
  have LB := Lib.hid lb
  clear ha hb ia ib la lb
  go_enter Try.func17, Try.ntmps17
  go_wp2_with fail
  refine (surplus_ref ps qs va vb w HA.out HB.out IA.out IB.out LA.out LB.out).mono ?_; rintro e w1 ⟨v1, os, rfl, hO, hp, hr⟩
  have HO := Lib.hid hO
  have HP := Lib.hid hp
  have HR := Lib.hid hr
  clear hO hp hr
  go_wp2_with fail
  refine (surplus_ref qs ps vb va w1 (HB.out.ext HO.out.2) (HA.out.ext HO.out.2) (IB.out.ext HO.out.2) (IA.out.ext HO.out.2) LB.out LA.out).mono ?_; rintro e w2 ⟨v2, ot, rfl, hO2, hp2, hr2⟩
  have HO2 := Lib.hid hO2
  have HP2 := Lib.hid hp2
  have HR2 := Lib.hid hr2
  clear hO2 hp2 hr2
  go_wp2_with fail
  go_ret2
  exact ⟨_, _, os, ot, rfl, ⟨HO.out.rd.ext HO2.out.2, fun p hp => (IA.out p (HP.out p hp)).ext (HO.out.2.trans HO2.out.2), HR.out⟩, ⟨HO2.out.rd, fun p hp => (IB.out p (HP2.out p hp)).ext (HO.out.2.trans HO2.out.2), HR2.out⟩, HO.out.2.trans HO2.out.2⟩
end Go.Proofs.Ytohpmbabegpefaa
