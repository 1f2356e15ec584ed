/- Classes of rows by the values of expressions, of the program. -/
import Derived.Test.YtbplapkcleipiaaGreatDoorZz29
namespace Go.Proofs.YtbplapkcleipiaaGreatDoor
open Go.ChangeShapes Go.WideShapes Go.ChangeAt Go.RowKit

set_option maxHeartbeats 2000000 in
set_option maxRecDepth 100000 in
theorem gk_prg (es : List X) (ex : List Int) (row : List V) (be bn : Nat) (a2 a3 a4 xa xb : Option Addr) (n2 n3 n4 c2 c3 c4 xn xc xm xd : Nat) (ve vx : Value) (w : World) (hl : RdG w ve es) (hxx : RdG w vx ex) (hbx : Bxn be [ve, .slice a2 n2 c2, .slice a3 n3 c3, .slice a4 n4 c4] w) (hby : w.cell? ⟨bn, 5, none⟩ = some vx) (hr : RdG w (.slice xa xn xc) row)
    (hs : es.length ≤ 1000) (hx : OkX es) (ho : OkR row) (he : ex.length ≤ 1000000) :
    Calls Tryz.prog 106 #[.agg #[.slice xa xn xc, .slice xb xm xd], .pointer (some ⟨be, 0, none⟩), .pointer (some ⟨bn, 0, none⟩)] w fun e w' => ∃ v, e = .returned v ∧ OwnG tV.e w w' v (valL es ex row) := by
  have HA := Lib.hid (fun w' (hE : Ext w w') => all_prg es ex row a2 a3 a4 n2 n3 n4 c2 c3 c4 ve vx (.slice xa xn xc) w' (hl.ext hE) (hxx.ext hE) (hr.ext hE) hs hx ho he)
  obtain ⟨ad, cap, rfl, _, _⟩ := hl.shape
  obtain ⟨xd0, xcap, rfl, _, _⟩ := hxx.shape
  have k0 := (hbx.2 0 _ rfl).1
  have k1 := (hbx.2 1 _ rfl).1
  have k2 := (hbx.2 2 _ rfl).1
  have k3 := (hbx.2 3 _ rfl).1
  have s0 := hbx.1
  have s1 := World.block_lt_of_cell? _ _ hby
  obtain ⟨n, hn⟩ : ∃ n, n = es.length := ⟨_, rfl⟩
  obtain ⟨u, hu⟩ : ∃ u, u = ex.length := ⟨_, rfl⟩
  rw [← hn] at HA k0
  rw [← hu] at HA hby
  clear hl hxx hbx hr hs hx ho he hn hu
  go_enter Tryz.func106, Tryz.ntmps106
  go_wp2_with fail
  refine (HA.out _ ((Ext.refl _).alloc _ _)).mono ?_; rintro e w1 ⟨v, rfl, hO⟩
  have HO := Lib.hid hO
  clear hO
  go_wp2_with fail
  go_ret
  exact ⟨_, rfl, HO.out.base ((Ext.refl _).alloc _ _)⟩
set_option maxHeartbeats 8000000 in
set_option maxRecDepth 100000 in
theorem cls_key (S : Nat → Prop) (es : List X) (ex : List Int) (l : List R) (be bn : Nat) (a2 a3 a4 : Option Addr) (n2 n3 n4 c2 c3 c4 : Nat) (ve vx vr : Value) (w : World) (hl : RdG w ve es) (hxx : RdG w vx ex) (hbx : Bxn be [ve, .slice a2 n2 c2, .slice a3 n3 c3, .slice a4 n4 c4] w) (hby : w.cell? ⟨bn, 5, none⟩ = some vx) (hU : Up S w) (hs : es.length ≤ 1000) (hx : OkX es) (ho : OkRs l) (hee : ex.length ≤ 1000000)
    (hr : RdR S w vr l) (hG : PT w) (hk : ∀ r ∈ l, KeyOk (valL es ex r.v)) (hll : l.length ≤ 1000000) :
    Calls Tryz.prog 102 #[vr, .func (.func 106) #[] #[.pointer (some ⟨be, 0, none⟩), .pointer (some ⟨bn, 0, none⟩)]] w (ClQ true S w (clsF (fun r => valL es ex r.v) l)) := by
  have HGK := Lib.hid (fun (row : List V) (xa xb : Option Addr) (xn xc xm xd : Nat) w' (hE : Ext w w') (hr : RdG w' (.slice xa xn xc) row) (hor : OkR row) => gk_prg es ex row be bn a2 a3 a4 xa xb n2 n3 n4 c2 c3 c4 xn xc xm xd ve vx w' (hl.ext hE) (hxx.ext hE) (hbx.ext hE) (hE.keeps hby) hr hs hx hor hee)
  obtain ⟨f, hf⟩ : ∃ f : R → List V, f = fun r => valL es ex r.v := ⟨_, rfl⟩
  have HFF := Lib.hid (fun r => (congrFun hf r : f r = valL es ex r.v))
  have hk : ∀ r ∈ l, KeyOk (f r) := by rw [hf]; exact hk
  rw [← hf]
  have HU := Lib.hid hU
  have HOR := Lib.hid ho
  clear hl hxx hbx hby hU hs hx ho hee hf
  obtain ⟨ps, h1, h2, h3, rfl⟩ := hr
  obtain ⟨bd, bcap, rfl, b1, b2⟩ := h1.shape
  have HP := Lib.hid h1
  have HF := Lib.hid h3
  have HK := Lib.hid hk
  have HG := Lib.hid hG
  have HLL := Lib.hid hll
  clear h1 h2 h3 hk hG hll
  obtain ⟨t, ht⟩ : ∃ t, t = ps.length := ⟨_, rfl⟩
  have HT := Lib.hid ht
  rw [← ht] at HP b1 ⊢
  clear ht
  unfold maxLen at b2
  have HM0 := Lib.hid (MapI.made w)
  have hmm := @run_makeMap Tryz.prog
  go_enter Tryz.func102, Tryz.ntmps102
  go_wp2_with fail
  clear hmm
  go_loopw [5, 16] (CsR true S w w.heap.size f ps) (fun _ i _ => t - (intOf i).toNat)
  case atStart => exact ⟨0, [], Nat.zero_le _, rfl, ClsI.nil true S (ext_grownBy (Ext.refl _) (World.grownBy_alloc w _ none) (fun k hk => by cases hk)) ps, rfl, HM0.out, Nat.zero_le _⟩
  case round =>
    obtain ⟨k, cps, hk, rfl, hC, hD, hM, hcl⟩ := hrel
    have hkt : k ≤ t := by rw [HT.out]; exact hk
    have hEw := Lib.hid hC.own.2
    by_cases hlt : k < t
    · have hlt' : k < ps.length := by rw [← HT.out]; exact hlt
      have hlr : k < (rows ps).length := by rw [rows_len]; exact hlt'
      obtain ⟨g, o, rfl, d0', d1'⟩ := rd_P HP.out k hlt'
      have d0 := hEw.out.keeps d0'
      have d1 := hEw.out.keeps d1'
      clear d0' d1'
      have hst := clsF_step f (rows ps) k hlr
      rw [rows_at ps k hlt', ← hD] at hst
      have hmem := List.getElem_mem hlt'
      have hfi := HF.out ps[k] hmem
      have hok := HK.out ps[k].r (List.mem_map_of_mem hmem)
      have hnd := (clsF_isC f ((rows ps).take k)).nd
      rw [← hD] at hnd
      generalize ps[k] = y at *
      obtain ⟨⟨xa, xn, xc, xb, xm, xd⟩, xr⟩ := y
      simp only [Hd.x, Hd.y] at d0 d1 hst hok
      obtain ⟨w0, hw0⟩ : ∃ w0, w0 = wr.alloc (.cells #[.slice xa xn xc, .slice xb xm xd] 51) := ⟨_, rfl⟩
      have EX := Lib.hid (show Ext wr w0 by rw [hw0]; exact (Ext.refl wr).alloc _ _)
      have z0 : w0.cell? ⟨wr.heap.size, 0, none⟩ = some (.slice xa xn xc) := by rw [hw0]; exact al0 _ _ _ _
      have z1 : w0.cell? ⟨wr.heap.size, 1, none⟩ = some (.slice xb xm xd) := by rw [hw0]; exact al1 _ _ _ _
      have hor := HOR.out xr (by have h := List.mem_map_of_mem (f := P.r) hmem; exact h)
      have HOV := Lib.hid (fun w' (hE : Ext w0 w') => HGK.out xr.v xa xb xn xc xm xd w' (hEw.out.trans (EX.out.trans hE)) (hfi.1.1.ext (hEw.out.trans (EX.out.trans hE))) hor)
      rw [← HFF.out xr] at HOV
      obtain ⟨fv, hfv⟩ : ∃ fv, fv = f xr := ⟨_, rfl⟩
      have HFV := Lib.hid hfv
      rw [← hfv] at hok HOV
      have HW0 := Lib.hid hw0
      have HFI := Lib.hid hfi
      have HC := Lib.hid hC
      have HD := Lib.hid hD
      have HM := Lib.hid hM
      have HCL := Lib.hid hcl
      have HST := Lib.hid hst
      have HND := Lib.hid hnd
      have HL := Lib.hid hlt'
      have HMEM := Lib.hid hmem
      have HLK := Lib.hid (litK_of fv hok.2)
      have hcn : cps.length ≤ 1000000 := by have := HLL.out; rw [rows_len] at this; omega
      have HCN := Lib.hid hcn
      have HOK := Lib.hid hok
      clear hor hfv
      clear hfi hok hC hD hM hcl hst hnd hmem hw0 hcn
      cases hix : ixC (cps.map ClP.d) fv with
      | some j =>
        go_wp2_with fail
        rw [← HW0.out]
        refine (HOV.out _ (Ext.refl _)).mono ?_; rintro e w1 ⟨vf, rfl, hOv⟩
        obtain ⟨fa, fn, fc, hvf⟩ : ∃ fa fn fc, vf = .slice fa fn fc := by obtain ⟨a, b, e, _⟩ := hOv.rd.shape; exact ⟨a, _, b, e⟩
        subst hvf
        have hE1 := hOv.2
        have HOV1 := Lib.hid hOv
        have HKC := Lib.hid (key_call fv (.slice fa fn fc) w1 (HG.out.ext (hEw.out.trans (EX.out.trans hE1))) hOv.rd HOK.out)
        clear hOv
        go_wp2_with fail
        refine HKC.out.mono ?_; rintro e w2 ⟨rfl, hE2⟩
        have HE12 := Lib.hid hE2
        have HE02 := Lib.hid (hE1.trans hE2)
        have r0 := HE02.out.keeps z0
        have r1 := HE02.out.keeps z1
        obtain ⟨D, hDo, hDm, hDf⟩ := HM.out.ext (EX.out.trans HE02.out)
        have hv := (hDf fv).2 j (by unfold ixF; rw [hix]; rfl)
        have HV := Lib.hid hv
        have HDO := Lib.hid hDo
        clear hv hDo hDf hE1 hE2 z0 z1
        go_wp2_with (at_lookup; refine Go.wpList_lookup_own_ok_int _ rfl _ _ 157 rfl 9 3 .i64 map_law Tryz.underlying157 Tryz.underlying3 (map_zero _) w.heap.size cps.length D rfl HDO.out _ _ rfl HLK.out ?_; intro c hat hwc; obtain rfl : c = (j : Int) := (by have h := (HV.out.2 _).symm.trans hat; injection h with h; injection h with _ h; exact h.symm); rw [HV.out.1]; clear hat hwc)
        have hC2 := HC.out.ext (EX.out.trans HE02.out)
        obtain ⟨⟨⟨ya, yn, yc, yb, ym, yd⟩, yv, yps⟩, hcj, hjv⟩ := ixC_at hix
        obtain ⟨gc, ccap, rfl, hj, hnc, hcm, q0, q1, qf, qs, hri, hap⟩ := hC2.at hcj
        simp only [Hd.x, Hd.y] at hri hap q0 q1
        have HYL := Lib.hid (show yps.length ≤ 1000000 from Nat.le_trans (rows_of cps f _ HD.out ⟨⟨ya, yn, yc, yb, ym, yd⟩, yv, yps⟩ (List.mem_of_getElem? hcj)) (by rw [List.length_take]; have := HLL.out; omega))
        have HRI := Lib.hid hri
        have HAP := Lib.hid hap
        have HCJ := Lib.hid hcj
        have HJV := Lib.hid hjv
        have HC2 := Lib.hid hC2
        have HIX := Lib.hid hix
        obtain ⟨cn, hcn⟩ : ∃ cn, cn = cps.length := ⟨_, rfl⟩
        have HCN2 := Lib.hid hcn
        rw [← hcn] at hj hnc HCN HC2 ⊢
        unfold maxLen at hcm
        clear hri hC2 hcj hjv hap hcn hix
        have HM2 := Lib.hid (HM.out.ext (EX.out.trans HE02.out))
        go_wp2_with fail
        have LX := Lib.hid ((Ext.refl w2).alloc #[.slice xa xn xc, .slice xb xm xd] 51)
        go_region_law (refine step_appGL tP rfl _ _ rfl w (.slice yb ym yd) yps rfl ?a1 _ [⟨⟨xa, xn, xc, xb, xm, xd⟩, xr⟩] rfl ?a2 ?a3 ?_; (have z1 := HRI.out.ext LX.out; have z1' := z1.ext (Ext.refl _).drew; case a1 => first | exact z1 | exact z1'); (have z2 := rd_litG w2 [(⟨⟨xa, xn, xc, xb, xm, xd⟩, xr⟩ : P)] #[.slice xa xn xc, .slice xb xm xd] 51 _ 1 rfl rfl (by simp) rfl; case a2 => exact z2); (case a3 => have := HYL.out; simp; omega); intro v5 w5 hO5 hg5 hl5; obtain ⟨v5a, v5n, v5c, hv5⟩ : ∃ v5a v5n v5c, v5 = .slice v5a v5n v5c := (by obtain ⟨a, b, e, _⟩ := hO5.rd.shape; exact ⟨a, _, b, e⟩); subst hv5; have p1 := grow_cell hg5 (LX.out.keeps q1) HAP.out; have pf := grow_frozen hg5 (Nat.lt_of_lt_of_le qs LX.out.2.2) ((LX.out.2.1 _ qs).trans qf) HAP.out; have ps1 := Nat.lt_of_lt_of_le (Nat.lt_of_lt_of_le qs LX.out.2.2) hg5.size)
        all_goals
          have hgr : Grw (w2.alloc (.cells #[.slice xa xn xc, .slice xb xm xd] 51)) w5 (Value.slice yb ym yd).ownBlock := ⟨hg5.os, hg5.output, hg5.size, hg5.block⟩
          have hll : Loc (w2.alloc (.cells #[.slice xa xn xc, .slice xb xm xd] 51)) (.slice yb ym yd) (.slice v5a v5n v5c) := hl5
          have HNEW := Lib.hid ((HC2.out.ext LX.out).row' HCJ.out HMEM.out hO5 hgr hll)
          have HMN := Lib.hid ((HM2.out.ext LX.out).store (o := j * 2 + 1) (u := .slice v5a v5n v5c) (HRI.out.ext LX.out) hgr (HC2.out.ext LX.out).own)
          clear hgr hll hO5 hg5 hl5 p1
          go_wp2_with fail
          go_roundw
          case rel =>
            refine ⟨k + 1, cps.set j ⟨⟨ya, yn, yc, v5a, v5n, v5c⟩, yv, yps ++ [⟨⟨xa, xn, xc, xb, xm, xd⟩, xr⟩]⟩, HL.out, by go_num, HNEW.out, ?_, ?_, ?_⟩
            · rw [HST.out]
              exact (data_known f cps xr HND.out (by rw [← HFV.out]; exact HIX.out) (c := ⟨⟨ya, yn, yc, yb, ym, yd⟩, yv, yps⟩) (c' := ⟨⟨ya, yn, yc, v5a, v5n, v5c⟩, yv, yps ++ [⟨⟨xa, xn, xc, xb, xm, xd⟩, xr⟩]⟩) (p := ⟨⟨xa, xn, xc, xb, xm, xd⟩, xr⟩) HCJ.out rfl rfl rfl).symm
            · have hf : ixF ((cps.set j ⟨⟨ya, yn, yc, v5a, v5n, v5c⟩, yv, yps ++ [⟨⟨xa, xn, xc, xb, xm, xd⟩, xr⟩]⟩).map ClP.d) = ixF (cps.map ClP.d) := by
                funext u; unfold ixF; rw [ixC_keys (data_fst (c' := ⟨⟨ya, yn, yc, v5a, v5n, v5c⟩, yv, yps ++ [(⟨⟨xa, xn, xc, xb, xm, xd⟩, xr⟩ : P)]⟩) HCJ.out rfl) u]
              rw [hf, List.length_set]
              exact HMN.out
            · rw [List.length_set]; exact Nat.le_trans HCL.out (Nat.le_succ _)
          case measure => simp [intOf]; omega
      | none =>
        go_wp2_with fail
        rw [← HW0.out]
        refine (HOV.out _ (Ext.refl _)).mono ?_; rintro e w1 ⟨vf, rfl, hOv⟩
        obtain ⟨fa, fn, fc, hvf⟩ : ∃ fa fn fc, vf = .slice fa fn fc := by obtain ⟨a, b, e, _⟩ := hOv.rd.shape; exact ⟨a, _, b, e⟩
        subst hvf
        have hE1 := hOv.2
        have HOV1 := Lib.hid hOv
        have HKC := Lib.hid (key_call fv (.slice fa fn fc) w1 (HG.out.ext (hEw.out.trans (EX.out.trans hE1))) hOv.rd HOK.out)
        clear hOv
        go_wp2_with fail
        refine HKC.out.mono ?_; rintro e w2 ⟨rfl, hE2⟩
        have HE12 := Lib.hid hE2
        have HE02 := Lib.hid (hE1.trans hE2)
        have r0 := HE02.out.keeps z0
        have r1 := HE02.out.keeps z1
        have HE2w := Lib.hid (EX.out.trans HE02.out)
        obtain ⟨D, hDo, hDm, hDf⟩ := HM.out.ext HE2w.out
        have hv := (hDf fv).1 (by unfold ixF; rw [hix]; rfl)
        have HV := Lib.hid hv
        have HDO := Lib.hid hDo
        have HDM := Lib.hid hDm
        have HDF := Lib.hid hDf
        have HC2 := Lib.hid (HC.out.ext HE2w.out)
        obtain ⟨va, vcap, hvc, _, _⟩ := HC2.out.own.rd.shape
        subst hvc
        have HIX := Lib.hid hix
        have HML := Lib.hid (show w.heap.size < wr.heap.size from by obtain ⟨es, cl, hb⟩ := HM.out.block; exact (Array.getElem?_eq_some_iff.1 hb).1)
        have HMB := Lib.hid ((HM.out.ext HE2w.out).block)
        have rs := World.block_lt_of_cell? _ _ r0
        clear hv hDo hDf hDm hE1 hE2 z0 z1 hix
        obtain ⟨cn, hcn⟩ : ∃ cn, cn = cps.length := ⟨_, rfl⟩
        have HCN2 := Lib.hid hcn
        rw [← hcn] at HCN HDO HC2 HC ⊢
        clear hcn
        have HVB := Lib.hid (fun kk hh => HC.out.own.lt kk hh)
        have HCJ := Lib.hid (show (cps ++ [(⟨⟨fa, fn, fc, none, 0, 0⟩, fv, []⟩ : ClP)])[cn]? = some (⟨⟨fa, fn, fc, none, 0, 0⟩, fv, []⟩ : ClP) by rw [HCN2.out]; simp)
        obtain ⟨c1, hc1⟩ : ∃ c1, c1 = cn + 1 := ⟨_, rfl⟩
        have HC1 := Lib.hid hc1
        have HLN1 := Lib.hid (show (cps ++ [(⟨⟨fa, fn, fc, none, 0, 0⟩, fv, []⟩ : ClP)]).length = c1 by rw [hc1, List.length_append, HCN2.out]; rfl)
        clear hc1
        have HYL := Lib.hid (show ([] : List P).length ≤ 1000000 by simp)
        have HVOK := Lib.hid (fun (W3 : World) (hE : Ext w1 W3) => (show VOk true S w W3 (⟨⟨fa, fn, fc, none, 0, 0⟩, fv, []⟩ : ClP) from ⟨⟨HOV1.out.rd.ext hE, HOV1.out.inn (HU.out.ext (hEw.out.trans EX.out))⟩, (HOV1.out.ext hE).off (by decide), (HOV1.out.ext hE).off (by decide), fun _ => (HOV1.out.ext hE).base (hEw.out.trans EX.out)⟩))
        have HDIS := Lib.hid (show ∀ d ∈ cps, Dis d.h.x (⟨⟨fa, fn, fc, none, 0, 0⟩, fv, []⟩ : ClP).h.x from fun d hd g hg hg2 => by
          have h1 := ((HC.out.val d hd).2.2.2 rfl).lt g hg
          have h2 := (HOV1.out.blk g hg2).1
          have h3 := EX.out.2.2
          omega)
        have HMP := Lib.hid (fun w3 hown => MapI.put (M := w.heap.size) (n := cn + 1) (w' := w3) fv (cn : Int) HDM.out HDF.out hown)
        go_wp2_with (first
          | (at_lookup; refine Go.wpList_lookup_own_ok_int _ rfl _ _ 157 rfl 9 3 .i64 map_law Tryz.underlying157 Tryz.underlying3 (map_zero _) w.heap.size cn D rfl HDO.out _ _ rfl HLK.out ?_; intro c hat hwc; rw [HV.out]; clear hat hwc)
          | (at_mapUpdate; refine wpList_mapUpdate_own _ rfl _ _ _ 157 rfl 9 3 map_law Tryz.underlying157 _ w.heap.size cn D rfl HDO.out (by have := HCN.out; unfold maxLen; omega) _ (.int .i64 (cn : Int)) (litK fv) rfl rfl HLK.out (.lit (.int .i64 (cn : Int))) [] (plainElem_int Tryz.underlying3 (by have := HCN.out; exact WalkArith.wf_i64 (by omega))) ?_; intro w3 hown3 hg3; have HO3 := Lib.hid hown3; have HG3 := Lib.hid hg3; have g0 := grow_cell hg3 r0 (fun kk hh => by injection hh with hh; have := HML.out; omega); have g1 := grow_cell hg3 r1 (fun kk hh => by injection hh with hh; have := HML.out; omega); have HV3 := Lib.hid (by obtain ⟨es, cl, hb⟩ := HMB.out; exact (HVOK.out _ HE12.out).map hb (grw_by hg3) (Nat.le_refl _)); have HC3 := Lib.hid (by obtain ⟨es, cl, hb⟩ := HMB.out; exact HC2.out.map hb (grw_by hg3) (Nat.le_refl _)); clear hown3 hg3)
          | (at_builtin; refine appGL tCl rfl _ _ rfl w _ cps rfl (HC3.out.own.ext ((Ext.refl w3).alloc #[.slice fa fn fc, .slice none 0 0] 163)) _ [(⟨⟨fa, fn, fc, none, 0, 0⟩, fv, []⟩ : ClP)] rfl (rd_litG w3 [(⟨⟨fa, fn, fc, none, 0, 0⟩, fv, []⟩ : ClP)] #[.slice fa fn fc, .slice none 0 0] 163 _ 1 rfl rfl (by simp) rfl) (by have := HCN.out; have := HCN2.out; simp; omega) ?_; intro v4 w4 hO4 hg4 hl4; have h0 := grow_cell hg4 (((Ext.refl w3).alloc #[.slice fa fn fc, .slice none 0 0] 163).keeps g0) (fun kk hh => by have := HVB.out kk hh; omega); have h1 := grow_cell hg4 (((Ext.refl w3).alloc #[.slice fa fn fc, .slice none 0 0] 163).keeps g1) (fun kk hh => by have := HVB.out kk hh; omega); have hs4 := World.block_lt_of_cell? _ _ h0; have hC4 := (HC3.out.ext ((Ext.refl w3).alloc #[.slice fa fn fc, .slice none 0 0] 163)).new (HV3.out.ext ((Ext.refl w3).alloc #[.slice fa fn fc, .slice none 0 0] 163)) rfl rfl (fun _ => HDIS.out) hO4 hg4; obtain ⟨gc, ccap, hv4, hj, hnc, hcm, q0, q1, qf, qs, hri, hap⟩ := hC4.at HCJ.out; rw [HLN1.out] at hv4 hj hnc; subst hv4; have HC2' := Lib.hid hC4; have HRI := Lib.hid hri; have HAP := Lib.hid hap; have HM2 := Lib.hid ((HMP.out w3 HO3.out).ext ((Ext.refl w3).alloc #[.slice fa fn fc, .slice none 0 0] 163) |>.grw (grw_by hg4) ((HMP.out w3 HO3.out).ext ((Ext.refl w3).alloc #[.slice fa fn fc, .slice none 0 0] 163) |>.ne (HC3.out.own.ext ((Ext.refl w3).alloc #[.slice fa fn fc, .slice none 0 0] 163)))); unfold maxLen at hcm; clear hC4 hri hap hO4 hg4 hl4 g0 g1))
        have HC2 := HC2'
        have LX := Lib.hid ((Ext.refl w4).alloc #[.slice xa xn xc, .slice xb xm xd] 51)
        go_region_law (refine step_appGL tP rfl _ _ rfl w (.slice none 0 0) [] rfl ?a1 _ [⟨⟨xa, xn, xc, xb, xm, xd⟩, xr⟩] rfl ?a2 ?a3 ?_; (have z1 := HRI.out.ext LX.out; have z1' := z1.ext (Ext.refl _).drew; case a1 => first | exact z1 | exact z1'); (have z2 := rd_litG w4 [(⟨⟨xa, xn, xc, xb, xm, xd⟩, xr⟩ : P)] #[.slice xa xn xc, .slice xb xm xd] 51 _ 1 rfl rfl (by simp) rfl; case a2 => exact z2); (case a3 => simp); intro v5 w5 hO5 hg5 hl5; obtain ⟨v5a, v5n, v5c, hv5⟩ : ∃ v5a v5n v5c, v5 = .slice v5a v5n v5c := (by obtain ⟨a, b, e, _⟩ := hO5.rd.shape; exact ⟨a, _, b, e⟩); subst hv5; have p1 := grow_cell hg5 (LX.out.keeps q1) HAP.out; have pf := grow_frozen hg5 (Nat.lt_of_lt_of_le qs LX.out.2.2) ((LX.out.2.1 _ qs).trans qf) HAP.out; have ps1 := Nat.lt_of_lt_of_le (Nat.lt_of_lt_of_le qs LX.out.2.2) hg5.size)
        all_goals
          have hgr : Grw (w4.alloc (.cells #[.slice xa xn xc, .slice xb xm xd] 51)) w5 (Value.slice none 0 0).ownBlock := ⟨hg5.os, hg5.output, hg5.size, hg5.block⟩
          have hll : Loc (w4.alloc (.cells #[.slice xa xn xc, .slice xb xm xd] 51)) (.slice none 0 0) (.slice v5a v5n v5c) := hl5
          have HNEW := Lib.hid ((HC2.out.ext LX.out).row' HCJ.out HMEM.out hO5 hgr hll)
          have HMN := Lib.hid ((HM2.out.ext LX.out).store (o := cn * 2 + 1) (u := .slice v5a v5n v5c) (HRI.out.ext LX.out) hgr (HC2.out.ext LX.out).own)
          clear hgr hll hO5 hg5 hl5 p1
          go_wp2_with fail
          go_roundw
          case rel =>
            refine ⟨k + 1, (cps ++ [(⟨⟨fa, fn, fc, none, 0, 0⟩, fv, []⟩ : ClP)]).set cn ⟨⟨fa, fn, fc, v5a, v5n, v5c⟩, fv, [] ++ [(⟨⟨xa, xn, xc, xb, xm, xd⟩, xr⟩ : P)]⟩, HL.out, by go_num, HNEW.out, ?_, ?_, ?_⟩
            · rw [HST.out, addC_new f _ xr (by rw [← HFV.out]; exact HIX.out), ← HFV.out, HCN2.out]
              simp [ClP.d, rows]
            · have hf : ixF (((cps ++ [(⟨⟨fa, fn, fc, none, 0, 0⟩, fv, []⟩ : ClP)]).set cn ⟨⟨fa, fn, fc, v5a, v5n, v5c⟩, fv, [] ++ [(⟨⟨xa, xn, xc, xb, xm, xd⟩, xr⟩ : P)]⟩).map ClP.d) = fun u => if u = fv then some (cn : Int) else ixF (cps.map ClP.d) u := by
                funext u
                unfold ixF
                rw [ixC_keys (data_fst (c' := ⟨⟨fa, fn, fc, v5a, v5n, v5c⟩, fv, [] ++ [(⟨⟨xa, xn, xc, xb, xm, xd⟩, xr⟩ : P)]⟩) HCJ.out rfl) u, List.map_append, List.map_cons, List.map_nil, ixC_snoc _ _ _ HIX.out, List.length_map, ← HCN2.out]
                by_cases h : u = fv
                · subst h; simp [ClP.d]
                · rw [if_neg h, if_neg (by simpa [ClP.d] using h)]
              rw [hf, List.length_set, HLN1.out, HC1.out]
              exact HMN.out
            · rw [List.length_set, HLN1.out, HC1.out, HCN2.out]; have := HCL.out; omega
          case measure => simp [intOf]; omega
    · have hke : (rows ps).take k = rows ps := List.take_of_length_le (by rw [rows_len]; have := HT.out; omega)
      rw [hke] at hD
      have HC := Lib.hid hC
      have HD := Lib.hid hD
      clear hke hC hD hM
      go_wp2_with fail
      go_ret
      exact ⟨_, cps, ps, rfl, HC.out, HF.out, HD.out⟩
end Go.Proofs.YtbplapkcleipiaaGreatDoor
