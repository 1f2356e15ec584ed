/- Classes of rows by their values, of the program. -/
import Derived.Deep.AppendLies
import Derived.Test.YtfojeajmonnifaaGreatDoorZz28
namespace Go.Proofs.YtfojeajmonnifaaGreatDoor
open Go.ChangeShapes Go.WideShapes Go.ChangeAt Go.RowKit

theorem ownv_prg (xa xb : Option Addr) (xn xc xm xd : Nat) (w : World) : Calls Tryz.prog 142 #[.agg #[.slice xa xn xc, .slice xb xm xd]] w fun e w' => e = .returned (.slice xa xn xc) ∧ Ext w w' := by
  go_enter Tryz.func142, Tryz.ntmps142
  go_wp2_with fail
  go_ret
  exact ⟨rfl, (Ext.refl _).alloc _ _⟩
/-- what classify hands back -/
def ClQ (fr : Bool) (S : Nat → Prop) (w : World) (cs : List Cl) (e : Ending) (w' : World) : Prop := ∃ v cps ps0, e = .returned v ∧ ClsI fr S w w' v cps ps0 ∧ (∀ p ∈ ps0, RdRow w p ∧ In S p.h.x ∧ In S p.h.y) ∧ cps.map ClP.d = cs
def ixF (cs : List Cl) (v : List V) : Option Int := (ixC cs v).map Int.ofNat
def CsR (fr : Bool) (S : Nat → Prop) (W : World) (M : Nat) (f : R → List V) (ps : List P) (vc i : Value) (wr : World) : Prop :=
  ∃ (k : Nat) (cps : List ClP), k ≤ ps.length ∧ i = .int .i64 k ∧ ClsI fr S W wr vc cps ps ∧ cps.map ClP.d = clsF f ((rows ps).take k) ∧ MapI M (ixF (cps.map ClP.d)) cps.length wr ∧ cps.length ≤ k
set_option maxHeartbeats 8000000 in
set_option maxRecDepth 100000 in
theorem cls_own (S : Nat → Prop) (l : List R) (vr : Value) (w : World) (hr : RdR S w vr l) (hG : PT w) (hk : ∀ r ∈ l, KeyOk r.v) (hll : l.length ≤ 1000000) :
    Calls Tryz.prog 141 #[vr, .func (.func 142) #[] #[]] w (ClQ false S w (clsF R.v l)) := by
  obtain ⟨ps, h1, h2, h3, rfl⟩ := hr
  obtain ⟨bd, bcap, rfl, b1, b2⟩ := h1.shape
  have HP := Lib.hid h1
  have HF := Lib.hid h3
  have HK := Lib.hid hk
  have HG := Lib.hid hG
  have HLL := Lib.hid hll
  clear h1 h2 h3 hk hG hll
  obtain ⟨t, ht⟩ : ∃ t, t = ps.length := ⟨_, rfl⟩
  have HT := Lib.hid ht
  rw [← ht] at HP b1 ⊢
  clear ht
  unfold maxLen at b2
  have HM0 := Lib.hid (MapI.made w)
  have hmm := @run_makeMap Tryz.prog
  go_enter Tryz.func141, Tryz.ntmps141
  go_wp2_with fail
  clear hmm
  go_loopw [5, 16] (CsR false S w w.heap.size R.v ps) (fun _ i _ => t - (intOf i).toNat)
  case atStart => exact ⟨0, [], Nat.zero_le _, rfl, ClsI.nil false S (ext_grownBy (Ext.refl _) (World.grownBy_alloc w _ none) (fun k hk => by cases hk)) ps, rfl, HM0.out, Nat.zero_le _⟩
  case round =>
    obtain ⟨k, cps, hk, rfl, hC, hD, hM, hcl⟩ := hrel
    have hkt : k ≤ t := by rw [HT.out]; exact hk
    have hEw := Lib.hid hC.own.2
    by_cases hlt : k < t
    · have hlt' : k < ps.length := by rw [← HT.out]; exact hlt
      have hlr : k < (rows ps).length := by rw [rows_len]; exact hlt'
      obtain ⟨g, o, rfl, d0', d1'⟩ := rd_P HP.out k hlt'
      have d0 := hEw.out.keeps d0'
      have d1 := hEw.out.keeps d1'
      clear d0' d1'
      have hst := clsF_step R.v (rows ps) k hlr
      rw [rows_at ps k hlt', ← hD] at hst
      have hmem := List.getElem_mem hlt'
      have hfi := HF.out ps[k] hmem
      have hok := HK.out ps[k].r (List.mem_map_of_mem hmem)
      have hnd := (clsF_isC R.v ((rows ps).take k)).nd
      rw [← hD] at hnd
      generalize ps[k] = y at *
      obtain ⟨⟨xa, xn, xc, xb, xm, xd⟩, xr⟩ := y
      simp only [Hd.x, Hd.y] at d0 d1 hst hok
      obtain ⟨w0, hw0⟩ : ∃ w0, w0 = wr.alloc (.cells #[.slice xa xn xc, .slice xb xm xd] 67) := ⟨_, rfl⟩
      have EX := Lib.hid (show Ext wr w0 by rw [hw0]; exact (Ext.refl wr).alloc _ _)
      have z0 : w0.cell? ⟨wr.heap.size, 0, none⟩ = some (.slice xa xn xc) := by rw [hw0]; exact al0 _ _ _ _
      have z1 : w0.cell? ⟨wr.heap.size, 1, none⟩ = some (.slice xb xm xd) := by rw [hw0]; exact al1 _ _ _ _
      have HOV := Lib.hid (fun w' => ownv_prg xa xb xn xc xm xd w')
      have HKC := Lib.hid (fun w' (hE : Ext w0 w') => key_call xr.v (.slice xa xn xc) w' (HG.out.ext (hEw.out.trans (EX.out.trans hE))) (hfi.1.1.ext (hEw.out.trans (EX.out.trans hE))) hok)
      have HW0 := Lib.hid hw0
      have HFI := Lib.hid hfi
      have HC := Lib.hid hC
      have HD := Lib.hid hD
      have HM := Lib.hid hM
      have HCL := Lib.hid hcl
      have HST := Lib.hid hst
      have HND := Lib.hid hnd
      have HL := Lib.hid hlt'
      have HMEM := Lib.hid hmem
      have HLK := Lib.hid (litK_of xr.v hok.2)
      have hcn : cps.length ≤ 1000000 := by have := HLL.out; rw [rows_len] at this; omega
      have HCN := Lib.hid hcn
      clear hfi hok hC hD hM hcl hst hnd hmem hw0 hcn
      cases hix : ixC (cps.map ClP.d) xr.v with
      | some j =>
        go_wp2_with fail
        rw [← HW0.out]
        refine (HOV.out _).mono ?_; rintro e w1 ⟨rfl, hE1⟩
        go_wp2_with fail
        refine (HKC.out _ hE1).mono ?_; rintro e w2 ⟨rfl, hE2⟩
        have HE02 := Lib.hid (hE1.trans hE2)
        have r0 := HE02.out.keeps z0
        have r1 := HE02.out.keeps z1
        obtain ⟨D, hDo, hDm, hDf⟩ := HM.out.ext (EX.out.trans HE02.out)
        have hv := (hDf xr.v).2 j (by unfold ixF; rw [hix]; rfl)
        have HV := Lib.hid hv
        have HDO := Lib.hid hDo
        clear hv hDo hDf hE1 hE2 z0 z1
        go_wp2_with (at_lookup; refine Go.wpList_lookup_own_ok_int _ rfl _ _ 194 rfl 9 3 .i64 map_law Tryz.underlying194 Tryz.underlying3 (map_zero _) w.heap.size cps.length D rfl HDO.out _ _ rfl HLK.out ?_; intro c hat hwc; obtain rfl : c = (j : Int) := (by have h := (HV.out.2 _).symm.trans hat; injection h with h; injection h with _ h; exact h.symm); rw [HV.out.1]; clear hat hwc)
        have hC2 := HC.out.ext (EX.out.trans HE02.out)
        obtain ⟨⟨⟨ya, yn, yc, yb, ym, yd⟩, yv, yps⟩, hcj, hjv⟩ := ixC_at hix
        obtain ⟨gc, ccap, rfl, hj, hnc, hcm, q0, q1, qf, qs, hri, hap⟩ := hC2.at hcj
        simp only [Hd.x, Hd.y] at hri hap q0 q1
        have HYL := Lib.hid (show yps.length ≤ 1000000 from Nat.le_trans (rows_of cps R.v _ HD.out ⟨⟨ya, yn, yc, yb, ym, yd⟩, yv, yps⟩ (List.mem_of_getElem? hcj)) (by rw [List.length_take]; have := HLL.out; omega))
        have HRI := Lib.hid hri
        have HAP := Lib.hid hap
        have HCJ := Lib.hid hcj
        have HJV := Lib.hid hjv
        have HC2 := Lib.hid hC2
        have HIX := Lib.hid hix
        obtain ⟨cn, hcn⟩ : ∃ cn, cn = cps.length := ⟨_, rfl⟩
        have HCN2 := Lib.hid hcn
        rw [← hcn] at hj hnc HCN HC2 ⊢
        unfold maxLen at hcm
        clear hri hC2 hcj hjv hap hcn hix
        have HM2 := Lib.hid (HM.out.ext (EX.out.trans HE02.out))
        go_wp2_with fail
        have LX := Lib.hid ((Ext.refl w2).alloc #[.slice xa xn xc, .slice xb xm xd] 67)
        go_region_law (refine step_appGL tP rfl _ _ rfl w (.slice yb ym yd) yps rfl ?a1 _ [⟨⟨xa, xn, xc, xb, xm, xd⟩, xr⟩] rfl ?a2 ?a3 ?_; (have z1 := HRI.out.ext LX.out; have z1' := z1.ext (Ext.refl _).drew; case a1 => first | exact z1 | exact z1'); (have z2 := rd_litG w2 [(⟨⟨xa, xn, xc, xb, xm, xd⟩, xr⟩ : P)] #[.slice xa xn xc, .slice xb xm xd] 67 _ 1 rfl rfl (by simp) rfl; case a2 => exact z2); (case a3 => have := HYL.out; simp; omega); intro v5 w5 hO5 hg5 hl5; obtain ⟨v5a, v5n, v5c, hv5⟩ : ∃ v5a v5n v5c, v5 = .slice v5a v5n v5c := (by obtain ⟨a, b, e, _⟩ := hO5.rd.shape; exact ⟨a, _, b, e⟩); subst hv5; have p1 := grow_cell hg5 (LX.out.keeps q1) HAP.out; have pf := grow_frozen hg5 (Nat.lt_of_lt_of_le qs LX.out.2.2) ((LX.out.2.1 _ qs).trans qf) HAP.out; have ps1 := Nat.lt_of_lt_of_le (Nat.lt_of_lt_of_le qs LX.out.2.2) hg5.size)
        all_goals
          have hgr : Grw (w2.alloc (.cells #[.slice xa xn xc, .slice xb xm xd] 67)) w5 (Value.slice yb ym yd).ownBlock := ⟨hg5.os, hg5.output, hg5.size, hg5.block⟩
          have hll : Loc (w2.alloc (.cells #[.slice xa xn xc, .slice xb xm xd] 67)) (.slice yb ym yd) (.slice v5a v5n v5c) := hl5
          have HNEW := Lib.hid ((HC2.out.ext LX.out).row' HCJ.out HMEM.out hO5 hgr hll)
          have HMN := Lib.hid ((HM2.out.ext LX.out).store (o := j * 2 + 1) (u := .slice v5a v5n v5c) (HRI.out.ext LX.out) hgr (HC2.out.ext LX.out).own)
          clear hgr hll hO5 hg5 hl5 p1
          go_wp2_with fail
          go_roundw
          case rel =>
            refine ⟨k + 1, cps.set j ⟨⟨ya, yn, yc, v5a, v5n, v5c⟩, yv, yps ++ [⟨⟨xa, xn, xc, xb, xm, xd⟩, xr⟩]⟩, HL.out, by go_num, HNEW.out, ?_, ?_, ?_⟩
            · rw [HST.out]
              exact (data_known R.v cps xr HND.out (HIX.out) (c := ⟨⟨ya, yn, yc, yb, ym, yd⟩, yv, yps⟩) (c' := ⟨⟨ya, yn, yc, v5a, v5n, v5c⟩, yv, yps ++ [⟨⟨xa, xn, xc, xb, xm, xd⟩, xr⟩]⟩) (p := ⟨⟨xa, xn, xc, xb, xm, xd⟩, xr⟩) HCJ.out rfl rfl rfl).symm
            · have hf : ixF ((cps.set j ⟨⟨ya, yn, yc, v5a, v5n, v5c⟩, yv, yps ++ [⟨⟨xa, xn, xc, xb, xm, xd⟩, xr⟩]⟩).map ClP.d) = ixF (cps.map ClP.d) := by
                funext u; unfold ixF; rw [ixC_keys (data_fst (c' := ⟨⟨ya, yn, yc, v5a, v5n, v5c⟩, yv, yps ++ [(⟨⟨xa, xn, xc, xb, xm, xd⟩, xr⟩ : P)]⟩) HCJ.out rfl) u]
              rw [hf, List.length_set]
              exact HMN.out
            · rw [List.length_set]; exact Nat.le_trans HCL.out (Nat.le_succ _)
          case measure => simp [intOf]; omega
      | none =>
        go_wp2_with fail
        rw [← HW0.out]
        refine (HOV.out _).mono ?_; rintro e w1 ⟨rfl, hE1⟩
        go_wp2_with fail
        refine (HKC.out _ hE1).mono ?_; rintro e w2 ⟨rfl, hE2⟩
        have HE02 := Lib.hid (hE1.trans hE2)
        have r0 := HE02.out.keeps z0
        have r1 := HE02.out.keeps z1
        have HE2w := Lib.hid (EX.out.trans HE02.out)
        obtain ⟨D, hDo, hDm, hDf⟩ := HM.out.ext HE2w.out
        have hv := (hDf xr.v).1 (by unfold ixF; rw [hix]; rfl)
        have HV := Lib.hid hv
        have HDO := Lib.hid hDo
        have HDM := Lib.hid hDm
        have HDF := Lib.hid hDf
        have HC2 := Lib.hid (HC.out.ext HE2w.out)
        obtain ⟨va, vcap, hvc, _, _⟩ := HC2.out.own.rd.shape
        subst hvc
        have HIX := Lib.hid hix
        have HML := Lib.hid (show w.heap.size < wr.heap.size from by obtain ⟨es, cl, hb⟩ := HM.out.block; exact (Array.getElem?_eq_some_iff.1 hb).1)
        have HMB := Lib.hid ((HM.out.ext HE2w.out).block)
        have rs := World.block_lt_of_cell? _ _ r0
        clear hv hDo hDf hDm hE1 hE2 z0 z1 hix
        obtain ⟨cn, hcn⟩ : ∃ cn, cn = cps.length := ⟨_, rfl⟩
        have HCN2 := Lib.hid hcn
        rw [← hcn] at HCN HDO HC2 HC ⊢
        clear hcn
        have HVB := Lib.hid (fun kk hh => HC.out.own.lt kk hh)
        have HCJ := Lib.hid (show (cps ++ [(⟨⟨xa, xn, xc, none, 0, 0⟩, xr.v, []⟩ : ClP)])[cn]? = some (⟨⟨xa, xn, xc, none, 0, 0⟩, xr.v, []⟩ : ClP) by rw [HCN2.out]; simp)
        obtain ⟨c1, hc1⟩ : ∃ c1, c1 = cn + 1 := ⟨_, rfl⟩
        have HC1 := Lib.hid hc1
        have HLN1 := Lib.hid (show (cps ++ [(⟨⟨xa, xn, xc, none, 0, 0⟩, xr.v, []⟩ : ClP)]).length = c1 by rw [hc1, List.length_append, HCN2.out]; rfl)
        clear hc1
        have HYL := Lib.hid (show ([] : List P).length ≤ 1000000 by simp)
        have HVOK := Lib.hid (fun (W3 : World) (hE : Ext w W3) => (show VOk false S w W3 (⟨⟨xa, xn, xc, none, 0, 0⟩, xr.v, []⟩ : ClP) from ⟨⟨HFI.out.1.1.ext hE, HFI.out.2.1⟩, off_old HFI.out.1.1, off_old HFI.out.1.1, fun h => by cases h⟩))
        have HMP := Lib.hid (fun w3 hown => MapI.put (M := w.heap.size) (n := cn + 1) (w' := w3) xr.v (cn : Int) HDM.out HDF.out hown)
        go_wp2_with (first
          | (at_lookup; refine Go.wpList_lookup_own_ok_int _ rfl _ _ 194 rfl 9 3 .i64 map_law Tryz.underlying194 Tryz.underlying3 (map_zero _) w.heap.size cn D rfl HDO.out _ _ rfl HLK.out ?_; intro c hat hwc; rw [HV.out]; clear hat hwc)
          | (at_mapUpdate; refine wpList_mapUpdate_own _ rfl _ _ _ 194 rfl 9 3 map_law Tryz.underlying194 _ w.heap.size cn D rfl HDO.out (by have := HCN.out; unfold maxLen; omega) _ (.int .i64 (cn : Int)) (litK xr.v) rfl rfl HLK.out (.lit (.int .i64 (cn : Int))) [] (plainElem_int Tryz.underlying3 (by have := HCN.out; exact WalkArith.wf_i64 (by omega))) ?_; intro w3 hown3 hg3; have HO3 := Lib.hid hown3; have HG3 := Lib.hid hg3; have g0 := grow_cell hg3 r0 (fun kk hh => by injection hh with hh; have := HML.out; omega); have g1 := grow_cell hg3 r1 (fun kk hh => by injection hh with hh; have := HML.out; omega); have HC3 := Lib.hid (by obtain ⟨es, cl, hb⟩ := HMB.out; exact HC2.out.map hb (grw_by hg3) (Nat.le_refl _)); clear hown3 hg3)
          | (at_builtin; refine appGL tCl rfl _ _ rfl w _ cps rfl (HC3.out.own.ext ((Ext.refl w3).alloc #[.slice xa xn xc, .slice none 0 0] 200)) _ [(⟨⟨xa, xn, xc, none, 0, 0⟩, xr.v, []⟩ : ClP)] rfl (rd_litG w3 [(⟨⟨xa, xn, xc, none, 0, 0⟩, xr.v, []⟩ : ClP)] #[.slice xa xn xc, .slice none 0 0] 200 _ 1 rfl rfl (by simp) rfl) (by have := HCN.out; have := HCN2.out; simp; omega) ?_; intro v4 w4 hO4 hg4 hl4; have h0 := grow_cell hg4 (((Ext.refl w3).alloc #[.slice xa xn xc, .slice none 0 0] 200).keeps g0) (fun kk hh => by have := HVB.out kk hh; omega); have h1 := grow_cell hg4 (((Ext.refl w3).alloc #[.slice xa xn xc, .slice none 0 0] 200).keeps g1) (fun kk hh => by have := HVB.out kk hh; omega); have hs4 := World.block_lt_of_cell? _ _ h0; have hC4 := (HC3.out.ext ((Ext.refl w3).alloc #[.slice xa xn xc, .slice none 0 0] 200)).new (HVOK.out _ (HC3.out.own.2.trans ((Ext.refl w3).alloc #[.slice xa xn xc, .slice none 0 0] 200))) rfl rfl (fun h => by cases h) hO4 hg4; obtain ⟨gc, ccap, hv4, hj, hnc, hcm, q0, q1, qf, qs, hri, hap⟩ := hC4.at HCJ.out; rw [HLN1.out] at hv4 hj hnc; subst hv4; have HC2' := Lib.hid hC4; have HRI := Lib.hid hri; have HAP := Lib.hid hap; have HM2 := Lib.hid ((HMP.out w3 HO3.out).ext ((Ext.refl w3).alloc #[.slice xa xn xc, .slice none 0 0] 200) |>.grw (grw_by hg4) ((HMP.out w3 HO3.out).ext ((Ext.refl w3).alloc #[.slice xa xn xc, .slice none 0 0] 200) |>.ne (HC3.out.own.ext ((Ext.refl w3).alloc #[.slice xa xn xc, .slice none 0 0] 200)))); unfold maxLen at hcm; clear hC4 hri hap hO4 hg4 hl4 g0 g1))
        have HC2 := HC2'
        have LX := Lib.hid ((Ext.refl w4).alloc #[.slice xa xn xc, .slice xb xm xd] 67)
        go_region_law (refine step_appGL tP rfl _ _ rfl w (.slice none 0 0) [] rfl ?a1 _ [⟨⟨xa, xn, xc, xb, xm, xd⟩, xr⟩] rfl ?a2 ?a3 ?_; (have z1 := HRI.out.ext LX.out; have z1' := z1.ext (Ext.refl _).drew; case a1 => first | exact z1 | exact z1'); (have z2 := rd_litG w4 [(⟨⟨xa, xn, xc, xb, xm, xd⟩, xr⟩ : P)] #[.slice xa xn xc, .slice xb xm xd] 67 _ 1 rfl rfl (by simp) rfl; case a2 => exact z2); (case a3 => simp); intro v5 w5 hO5 hg5 hl5; obtain ⟨v5a, v5n, v5c, hv5⟩ : ∃ v5a v5n v5c, v5 = .slice v5a v5n v5c := (by obtain ⟨a, b, e, _⟩ := hO5.rd.shape; exact ⟨a, _, b, e⟩); subst hv5; have p1 := grow_cell hg5 (LX.out.keeps q1) HAP.out; have pf := grow_frozen hg5 (Nat.lt_of_lt_of_le qs LX.out.2.2) ((LX.out.2.1 _ qs).trans qf) HAP.out; have ps1 := Nat.lt_of_lt_of_le (Nat.lt_of_lt_of_le qs LX.out.2.2) hg5.size)
        all_goals
          have hgr : Grw (w4.alloc (.cells #[.slice xa xn xc, .slice xb xm xd] 67)) w5 (Value.slice none 0 0).ownBlock := ⟨hg5.os, hg5.output, hg5.size, hg5.block⟩
          have hll : Loc (w4.alloc (.cells #[.slice xa xn xc, .slice xb xm xd] 67)) (.slice none 0 0) (.slice v5a v5n v5c) := hl5
          have HNEW := Lib.hid ((HC2.out.ext LX.out).row' HCJ.out HMEM.out hO5 hgr hll)
          have HMN := Lib.hid ((HM2.out.ext LX.out).store (o := cn * 2 + 1) (u := .slice v5a v5n v5c) (HRI.out.ext LX.out) hgr (HC2.out.ext LX.out).own)
          clear hgr hll hO5 hg5 hl5 p1
          go_wp2_with fail
          go_roundw
          case rel =>
            refine ⟨k + 1, (cps ++ [(⟨⟨xa, xn, xc, none, 0, 0⟩, xr.v, []⟩ : ClP)]).set cn ⟨⟨xa, xn, xc, v5a, v5n, v5c⟩, xr.v, [] ++ [(⟨⟨xa, xn, xc, xb, xm, xd⟩, xr⟩ : P)]⟩, HL.out, by go_num, HNEW.out, ?_, ?_, ?_⟩
            · rw [HST.out, addC_new R.v _ xr HIX.out, HCN2.out]
              simp [ClP.d, rows]
            · have hf : ixF (((cps ++ [(⟨⟨xa, xn, xc, none, 0, 0⟩, xr.v, []⟩ : ClP)]).set cn ⟨⟨xa, xn, xc, v5a, v5n, v5c⟩, xr.v, [] ++ [(⟨⟨xa, xn, xc, xb, xm, xd⟩, xr⟩ : P)]⟩).map ClP.d) = fun u => if u = xr.v then some (cn : Int) else ixF (cps.map ClP.d) u := by
                funext u
                unfold ixF
                rw [ixC_keys (data_fst (c' := ⟨⟨xa, xn, xc, v5a, v5n, v5c⟩, xr.v, [] ++ [(⟨⟨xa, xn, xc, xb, xm, xd⟩, xr⟩ : P)]⟩) HCJ.out rfl) u, List.map_append, List.map_cons, List.map_nil, ixC_snoc _ _ _ HIX.out, List.length_map, ← HCN2.out]
                by_cases h : u = xr.v
                · subst h; simp [ClP.d]
                · rw [if_neg h, if_neg (by simpa [ClP.d] using h)]
              rw [hf, List.length_set, HLN1.out, HC1.out]
              exact HMN.out
            · rw [List.length_set, HLN1.out, HC1.out, HCN2.out]; have := HCL.out; omega
          case measure => simp [intOf]; omega
    · have hke : (rows ps).take k = rows ps := List.take_of_length_le (by rw [rows_len]; have := HT.out; omega)
      rw [hke] at hD
      have HC := Lib.hid hC
      have HD := Lib.hid hD
      clear hke hC hD hM
      go_wp2_with fail
      go_ret
      exact ⟨_, cps, ps, rfl, HC.out, HF.out, HD.out⟩
end Go.Proofs.YtfojeajmonnifaaGreatDoor
