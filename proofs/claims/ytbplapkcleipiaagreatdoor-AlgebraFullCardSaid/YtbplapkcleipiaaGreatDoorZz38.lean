/- Evaluating a query, of the program: Intersect. -/
import Derived.Test.YtbplapkcleipiaaGreatDoorZz36
namespace Go.Proofs.YtbplapkcleipiaaGreatDoor
open Go.ChangeShapes Go.WideShapes Go.ChangeAt Go.RowKit

set_option maxHeartbeats 8000000 in
set_option maxRecDepth 100000 in
theorem cmb_is (S : Nat → Prop) (a b : List R) (va vb : Value) (w : World)
    (ha : RdR S w va a) (hb : RdR S w vb b) (hU : Up S w) (hG : PT w) (hk : ∀ r ∈ a ++ b, KeyOk r.v) (hll : a.length + b.length ≤ 1000000) (hli : ∀ c ∈ clsF R.v (a ++ b), (c.2.flatMap R.t).length ≤ 100000000) (hres : ((clsF R.v (a ++ b)).flatMap (cmbC timI a)).length ≤ 100000000) :
    Calls Tryz.prog 70 #[va, vb, .func (.func 72) #[] #[]] w (RoP S w ((clsF R.v (a ++ b)).flatMap (cmbC timI a))) := by
  have HLI := Lib.hid hli
  have HRES := Lib.hid hres
  have HCN := Lib.hid (fun c hc => cls_cnt a b c hc)
  have HKO := Lib.hid (fun (c : Cl) (hc : c ∈ clsF R.v (a ++ b)) => (show KeyOk c.1 by
    obtain ⟨r, hr, e⟩ := List.mem_map.1 (((clsF_isC R.v (a ++ b)).mem c.1).1 (List.mem_map_of_mem hc))
    rw [← e]; exact hk r hr))
  have hcl : (clsF R.v (a ++ b)).length ≤ 1000000 := by
    have hi := clsF_isC R.v (a ++ b)
    have h1 : ((clsF R.v (a ++ b)).map Prod.fst).length ≤ ((a ++ b).map R.v).length := hi.nd.length_le_of_subset (fun v hv => (hi.mem v).1 hv)
    rw [List.length_map, List.length_map, List.length_append] at h1; omega
  obtain ⟨ps, h1, h2, h3, rfl⟩ := ha
  obtain ⟨qs, q1, q2, q3, rfl⟩ := hb
  obtain ⟨bd, bcap, rfl, b1, b2⟩ := h1.shape
  obtain ⟨dd, dcap, rfl, _, _⟩ := q1.shape
  rw [rows_len, rows_len] at hll
  have HCC := Lib.hid (fun (g : Nat) (w' : World) (hE : Ext w w') (g0 : w'.cell? ⟨g, 0, none⟩ = some (.slice bd ps.length bcap)) (g1 : w'.cell? ⟨g, 1, none⟩ = some (.slice dd qs.length dcap)) => concat_P ps qs _ _ g w' (h1.ext hE) (q1.ext hE) g0 g1 (by omega))
  have HCL := Lib.hid (fun (v : Value) (w1 w2 : World) (hE : Ext w w1) (hO : OwnG tP.e w1 w2 v (ps ++ qs)) => cls_own S (rows ps ++ rows qs) v w2 ⟨ps ++ qs, hO.rd, hO.inn (hU.ext hE), fun p hp => (by
    rcases List.mem_append.1 hp with hp | hp
    · exact ⟨(h3 p hp).1.ext (hE.trans hO.2), (h3 p hp).2⟩
    · exact ⟨(q3 p hp).1.ext (hE.trans hO.2), (q3 p hp).2⟩), rows_app _ _⟩ (hG.ext (hE.trans hO.2)) hk (by rw [List.length_append, rows_len, rows_len]; omega))
  obtain ⟨cs, hcs⟩ : ∃ cs, cs = clsF R.v (rows ps ++ rows qs) := ⟨_, rfl⟩
  rw [← hcs] at HCL hcl HLI HRES HKO HCN ⊢
  have HP := Lib.hid h1
  have HF := Lib.hid h3
  have HU := Lib.hid hU
  have HG := Lib.hid hG
  have HK := Lib.hid (fun r (hr : r ∈ rows ps) => hk r (List.mem_append_left _ hr))
  have HLL := Lib.hid hll
  have HLC := Lib.hid hcl
  clear h1 h2 h3 q1 q2 q3 hk hll hli hres hcs hcl hU hG
  obtain ⟨t, ht⟩ : ∃ t, t = ps.length := ⟨_, rfl⟩
  obtain ⟨s, hs⟩ : ∃ s, s = qs.length := ⟨_, rfl⟩
  have HT := Lib.hid ht
  have HS := Lib.hid hs
  rw [← ht] at HP HCC HLL b1 ⊢
  rw [← hs] at HCC HLL ⊢
  clear ht hs
  unfold maxLen at b2
  have HM0 := Lib.hid (MapI.made w)
  have hmm := @run_makeMap Tryz.prog
  go_enter Tryz.func70, Tryz.ntmps70
  go_wp2_with fail
  clear hmm
  go_loopw [18] (CtR w w.heap.size (rows ps)) (fun i _ => t - (intOf i).toNat)
  case atStart => exact ⟨0, Nat.zero_le _, rfl, ext_grownBy (Ext.refl _) (World.grownBy_alloc w _ none) (fun k hk => by cases hk), HM0.out⟩
  case round =>
    obtain ⟨k, hk, rfl, hE, hM⟩ := hrel
    rw [rows_len] at hk
    have hkt : k ≤ t := by rw [HT.out]; exact hk
    have hEw := Lib.hid hE
    by_cases hlt : k < t
    · have hlt' : k < ps.length := by rw [← HT.out]; exact hlt
      have hlr : k < (rows ps).length := by rw [rows_len]; exact hlt'
      obtain ⟨g, o, rfl, d0', d1'⟩ := rd_P HP.out k hlt'
      have d0 := hEw.out.keeps d0'
      have d1 := hEw.out.keeps d1'
      clear d0' d1'
      have hst : ((rows ps).take (k + 1)).map R.v = ((rows ps).take k).map R.v ++ [(rows ps)[k].v] := by rw [List.take_succ_eq_append_getElem hlr, List.map_append]; rfl
      rw [rows_at ps k hlt'] at hst
      have hfi := HF.out ps[k] (List.getElem_mem _)
      have hok := HK.out ps[k].r (List.mem_map_of_mem (List.getElem_mem _))
      have hcc : (((rows ps).take k).map R.v).count ps[k].r.v ≤ 1000000 := by
        refine Nat.le_trans List.count_le_length ?_
        rw [List.length_map, List.length_take]; have := HLL.out; omega
      generalize ps[k] = y at *
      obtain ⟨⟨xa, xn, xc, xb, xm, xd⟩, xr⟩ := y
      simp only [Hd.x, Hd.y] at d0 d1 hst hok hcc
      obtain ⟨w0, hw0⟩ : ∃ w0, w0 = wr.alloc (.cells #[.slice xa xn xc, .slice xb xm xd] 51) := ⟨_, rfl⟩
      have EX := Lib.hid (show Ext wr w0 by rw [hw0]; exact (Ext.refl wr).alloc _ _)
      have HKC := Lib.hid (fun w' (hE : Ext w0 w') => key_call xr.v (.slice xa xn xc) w' (HG.out.ext (hEw.out.trans (EX.out.trans hE))) (hfi.1.1.ext (hEw.out.trans (EX.out.trans hE))) hok)
      have HW0 := Lib.hid hw0
      have HM := Lib.hid hM
      have HST := Lib.hid hst
      have HL := Lib.hid hlt'
      have HLK := Lib.hid (litK_of xr.v hok.2)
      obtain ⟨cc, hcc0⟩ : ∃ cc, cc = (((rows ps).take k).map R.v).count xr.v := ⟨_, rfl⟩
      rw [← hcc0] at hcc
      have HC0 := Lib.hid hcc0
      have HKN := Lib.hid (show k < maxLen by have := HLL.out; unfold maxLen; omega)
      clear hfi hok hM hst hw0 hcc0 hE
      go_wp2_with fail
      rw [← HW0.out]
      refine (HKC.out _ (Ext.refl _)).mono ?_; rintro e w2 ⟨rfl, hE2⟩
      have HE2 := Lib.hid (EX.out.trans hE2)
      obtain ⟨D, hDo, hDm, hDf⟩ := HM.out.ext HE2.out
      have HDO := Lib.hid hDo
      have HDM := Lib.hid hDm
      have HDF := Lib.hid hDf
      clear hDo hDm hDf hE2
      go_wp2_with (first
        | (at_lookup; refine Go.wpList_lookup_own_int _ rfl _ _ 157 rfl 9 3 .i64 map_law Tryz.underlying157 Tryz.underlying3 (map_zero _) w.heap.size k D rfl HDO.out _ _ rfl HLK.out ?_; intro c hat hwc; obtain rfl : c = (cc : Int) := (cntF_look HDF.out xr.v c hat).trans (by rw [HC0.out]); clear hat hwc)
        | (at_mapUpdate; refine wpList_mapUpdate_own _ rfl _ _ _ 157 rfl 9 3 map_law Tryz.underlying157 _ w.heap.size k D rfl HDO.out HKN.out _ (.int .i64 ((cc : Int) + 1)) (litK xr.v) rfl rfl HLK.out (.lit (.int .i64 ((cc : Int) + 1))) [] (plainElem_int Tryz.underlying3 (WalkArith.wf_i64 (by omega))) ?_; intro w3 hown3 hg3))
      go_roundw
      case rel =>
        refine ⟨k + 1, by rw [rows_len]; exact HL.out, by go_num, ext_grownBy (hEw.out.trans HE2.out) hg3 (fun kk hh => by injection hh with hh; omega), ?_⟩
        rw [HST.out, cntF_add, ← HC0.out]
        exact MapI.put xr.v _ HDM.out HDF.out hown3
      case measure => simp [intOf]; omega
    · have hke : (rows ps).take k = rows ps := List.take_of_length_le (by rw [rows_len]; have := HT.out; omega)
      rw [hke] at hM
      have HM := Lib.hid hM
      clear hke hM hE
      obtain ⟨wA, rfl⟩ : ∃ x, x = wr := ⟨_, rfl⟩
      go_wp2_with fail
      refine (HCC.out wA.heap.size _ (hEw.out.alloc _ _) (al0 _ _ _ _) (al1 _ _ _ _)).mono ?_; rintro e w1 ⟨v1, rfl, hO1⟩
      have HE1 := Lib.hid (((Ext.refl wA).alloc #[.slice bd t bcap, .slice dd s dcap] 28).trans hO1.2)
      have HO1 := Lib.hid hO1
      obtain ⟨v1a, v1c, hv1, _, _⟩ := hO1.rd.shape
      subst hv1
      obtain ⟨v1n, hv1n⟩ : ∃ n, n = (ps ++ qs).length := ⟨_, rfl⟩
      rw [← hv1n] at HO1 ⊢
      clear hO1 hv1n
      go_wp2_with fail
      refine (HCL.out _ _ w1 (hEw.out.alloc _ _) HO1.out).mono ?_; rintro e w2 ⟨v, cps, ps0, rfl, hI, hp0, hd⟩
      obtain ⟨va, vcap, rfl, v1, v2⟩ := hI.own.rd.shape
      have HI := Lib.hid hI
      have HP0 := Lib.hid hp0
      have HD := Lib.hid hd
      have HW := Lib.hid (hEw.out.trans (HE1.out.trans hI.own.2))
      have HW1 := Lib.hid (hEw.out.trans HE1.out)
      have HM2 := Lib.hid (HM.out.ext (HE1.out.trans hI.own.2))
      have hclen : cps.length = cs.length := by rw [← hd, List.length_map]
      have HRD := Lib.hid hI.own.rd
      obtain ⟨u, hu⟩ : ∃ u, u = cps.length := ⟨_, rfl⟩
      have HT2 := Lib.hid hu
      have HTC := Lib.hid (show u = cs.length from hu.trans hclen)
      rw [← hu] at HRD v1 ⊢
      unfold maxLen at v2
      clear hI hp0 hd hclen hu
      go_wp2_with fail
      go_loopw [10, 35] (CbR S w2 (cmbC timI (rows ps)) cs) (fun _ i _ => u - (intOf i).toNat)
      case atStart => exact ⟨0, Nat.zero_le _, rfl, OwnQ.nil S (Ext.refl _)⟩
      case round =>
        obtain ⟨k2, hk2, rfl, hO⟩ := hrel
        have hkt2 : k2 ≤ u := by rw [HTC.out]; exact hk2
        have hE1 := Lib.hid hO.old
        by_cases hlt2 : k2 < u
        · have hlc : k2 < cps.length := by rw [← HT2.out]; exact hlt2
          have hls : k2 < cs.length := by rw [← HTC.out]; exact hlt2
          obtain ⟨g, o, rfl, d0', d1'⟩ := rd_Cl HRD.out k2 hlc
          have d0 := hE1.out.keeps d0'
          have d1 := hE1.out.keeps d1'
          clear d0' d1'
          have hst := fm_step (cmbC timI (rows ps)) cs k2 hls
          have hpre := fm_pre (cmbC timI (rows ps)) cs (k2 + 1)
          rw [hst, List.length_append] at hpre
          have hck : cs[k2] = cps[k2].d := by have h := HD.out; subst h; simp
          have hli := HLI.out cs[k2] (List.getElem_mem _)
          have hcn := HCN.out cs[k2] (List.getElem_mem _)
          have hko := HKO.out cs[k2] (List.getElem_mem _)
          rw [hck] at hst hli hcn hko hpre
          have hmem := List.getElem_mem hlc
          have hrr := HI.out.rdR HP0.out (HU.out.ext HW1.out) cps[k2] hmem
          have hvv := HI.out.val cps[k2] hmem
          generalize cps[k2] = y at *
          obtain ⟨⟨xa, xn, xc, xb, xm, xd⟩, yv, yps⟩ := y
          simp only [Hd.x, Hd.y, ClP.d] at d0 d1 hrr hst hli hcn hko hpre
          have hxm : xm = yps.length := by
            obtain ⟨_, _, e⟩ := rdR_ok.shape hrr
            rw [rows_len] at e; injection e
          obtain ⟨cc, hcc⟩ : ∃ cc, cc = cnt (rows ps) yv := ⟨_, rfl⟩
          obtain ⟨nn, hnn⟩ : ∃ nn, nn = xm - cc := ⟨_, rfl⟩
          rw [← hcc, rows_len, ← hxm] at hcn
          have hcb : cmbC timI (rows ps) (yv, rows yps) = List.replicate (timI cc nn) ⟨yv, linR (rows yps)⟩ := by
            unfold cmbC
            simp only
            rw [← hcc, rows_len, ← hxm, ← hnn]
          rw [hcb, List.length_replicate] at hpre
          rw [hcb] at hst
          rw [rows_len, rows_len] at hcn
          have hff : timI cc nn ≤ 1000000 := by unfold timI; have := HLL.out; have := HT.out; have := HS.out; omega
          have hpl : ((cs.take k2).flatMap (cmbC timI (rows ps))).length ≤ 100000000 := by have := HRES.out; omega
          have hb1 : cc ≤ 1000000 := by have := HLL.out; have := HT.out; have := HS.out; omega
          have hb2 : nn ≤ 1000000 := by have := HLL.out; have := HT.out; have := HS.out; omega
          have hb3 : xm ≤ 1000000 := by have := HLL.out; have := HT.out; have := HS.out; omega
          have e1 : (xm : Int) - (cc : Int) = (nn : Int) := by omega
          have e2 : IntKind.i64.wrap (nn : Int) = (nn : Int) := by simp [IntKind.wrap, IntKind.bits, IntKind.signed]; omega
          have HFF := Lib.hid hff
          have HNN := Lib.hid (show ∀ w', Calls Tryz.prog 72 #[.int .i64 cc, .int .i64 nn] w' fun e w'' => w' = w'' ∧ e = .returned (.int .i64 ((timI cc nn : Nat) : Int)) from fun w' => least_prg cc nn w')
          have HC0 := Lib.hid (show (cnt (rows ps) yv : Int) = (cc : Int) by rw [hcc])
          have hli2 : ((rows yps).flatMap R.t).length ≤ 100000000 := hli
          obtain ⟨w0, hw0⟩ : ∃ w0, w0 = wr.alloc (.cells #[.slice xa xn xc, .slice xb xm xd] 163) := ⟨_, rfl⟩
          have EX := Lib.hid (show Ext wr w0 by rw [hw0]; exact (Ext.refl wr).alloc _ _)
          have m0 : w0.cell? ⟨wr.heap.size, 0, none⟩ = some (.slice xa xn xc) := by rw [hw0]; exact al0 _ _ _ _
          have m1 : w0.cell? ⟨wr.heap.size, 1, none⟩ = some (.slice xb xm xd) := by rw [hw0]; exact al1 _ _ _ _
          have HKC := Lib.hid (fun w' (hE : Ext w0 w') => key_call yv (.slice xa xn xc) w' (HG.out.ext (HW.out.trans (hE1.out.trans (EX.out.trans hE)))) (hvv.1.1.ext (hE1.out.trans (EX.out.trans hE))) hko)
          have HHH := Lib.hid (fun w' (hE : Ext w0 w') => lin_prg (rows yps) xa xn xc (.slice xb xm xd) S w' (rdR_ok.ext hrr (hE1.out.trans (EX.out.trans hE))) hli2)
          have HVV := Lib.hid (show RdI S w2 (.slice xa xn xc) yv from hvv.1)
          have HLK := Lib.hid (litK_of yv hko.2)
          have HST := Lib.hid hst
          have HL := Lib.hid hls
          obtain ⟨rs, hr1, hr2, hr3⟩ := hO
          have HQL := Lib.hid (show rs.length ≤ 100000000 by have e := rows_len rs; rw [hr3] at e; omega)
          have HQ1 := Lib.hid hr1
          have HQ2 := Lib.hid hr2
          have HQ3 := Lib.hid hr3
          have HQB := Lib.hid (fun kk hh => hr1.lt kk hh)
          have HW0 := Lib.hid hw0
          have HSZ := Lib.hid (show wr.heap.size < w0.heap.size by rw [hw0]; simp)
          clear hrr hvv hli hli2 hpl hst hck hmem hr1 hr2 hr3 hw0 hxm hcc hnn hcn hcb hpre hff hko hb2
          go_wp2_with fail
          rw [← HW0.out]
          refine (HKC.out _ (Ext.refl _)).mono ?_; rintro e w3 ⟨rfl, hE3⟩
          have HE3 := Lib.hid hE3
          have HE23 := Lib.hid (hE1.out.trans (EX.out.trans hE3))
          obtain ⟨D, hDo, hDm, hDf⟩ := HM2.out.ext HE23.out
          have HDO := Lib.hid hDo
          have HDF := Lib.hid hDf
          have KM0 := Lib.hid (hE3.keeps m0)
          have KM1 := Lib.hid (hE3.keeps m1)
          have S3 := Lib.hid (show wr.heap.size < w3.heap.size from Nat.lt_of_lt_of_le HSZ.out hE3.2.2)
          clear hDo hDm hDf hE3 m0 m1
          go_wp2_with (at_lookup; refine Go.wpList_lookup_own_int _ rfl _ _ 157 rfl 9 3 .i64 map_law Tryz.underlying157 Tryz.underlying3 (map_zero _) w.heap.size k D rfl HDO.out _ _ rfl HLK.out ?_; intro c hat hwc; obtain rfl : c = (cc : Int) := (cntF_look HDF.out yv c hat).trans (by rw [cnt_count]; exact HC0.out); clear hat hwc)
          go_region_held3 (fun w' => w'.cell? ⟨wr.heap.size, 0, none⟩ = some (.slice xa xn xc) ∧ w'.cell? ⟨wr.heap.size, 1, none⟩ = some (.slice xb xm xd))
            (first | exact ⟨KM0.out, KM1.out⟩ | exact ⟨((Ext.refl w3).alloc _ _).keeps KM0.out, ((Ext.refl w3).alloc _ _).keeps KM1.out⟩ | exact ⟨f4, f5⟩ | exact ⟨far2 S3.out f4, far2 S3.out f5⟩ | go_keep)
            (first | (go_at_call 104; refine (HHH.out _ ?_).mono ?_; (first | exact HE3.out | exact HE3.out.alloc _ _ | exact HE3.out.drew | exact (HE3.out.alloc _ _).drew); rintro e w4 ⟨v4, rfl, hO4'⟩; obtain ⟨a4, n4, c4, hv4⟩ : ∃ a4 n4 c4, v4 = .slice a4 n4 c4 := (by obtain ⟨a, b, e, _⟩ := hO4'.rd.shape; exact ⟨a, _, b, e⟩); subst hv4; first
              | (have hO4 : OwnG tI.e w3 w4 (.slice a4 n4 c4) (linR (rows yps)) := hO4'; have f4 := hO4.2.keeps KM0.out; have f5 := hO4.2.keeps KM1.out)
              | (have hO4b : OwnG tI.e (w3.alloc (.cells #[.slice none 0 0, .slice none 0 0] 51)) w4 (.slice a4 n4 c4) (linR (rows yps)) := hO4'; have e4 : Ext w3 w4 := ((Ext.refl w3).alloc _ _).trans hO4b.2; have hbn := (Bxn.new w3 #[.slice none 0 0, .slice none 0 0] 51).ext hO4b.2; have bz0 := (hbn.2 0 _ rfl).1; have bz1 := (hbn.2 1 _ rfl).1; have bz2 := (hbn.2 0 _ rfl).2; have bz3 := (hbn.2 1 _ rfl).2; have bz4 := hbn.1; clear hbn; have f4 := e4.keeps KM0.out; have f5 := e4.keeps KM1.out)))
          all_goals
            first
              | (have hbx := bxE_set (wr := w3) (w3 := w4) (p := .slice none 0 0) (q := .slice none 0 0) (x := .slice xa xn xc) (y := .slice a4 n4 c4) (t := 51) hO4b.2; have hO5 := own_set2 (x := .slice xa xn xc) (y := .slice a4 n4 c4) hO4b; generalize ((w4.setCell ⟨w3.heap.size, 0, none⟩ (.slice xa xn xc)).setCell ⟨w3.heap.size, 1, none⟩ (.slice a4 n4 c4)) = W4 at hbx hO5 ⊢; have hBB := S3.out; clear hO4b hO4' bz0 bz1 bz2 bz3 bz4 e4; generalize w3.heap.size = B at hbx hBB ⊢)
              | (have hbx := bxE_alloc (wr := w3) (w3 := w4) (x := .slice xa xn xc) (y := .slice a4 n4 c4) (t := 51) hO4.2; have hO5 := hO4.ext ((Ext.refl w4).alloc #[.slice xa xn xc, .slice a4 n4 c4] 51); generalize (w4.alloc (.cells #[.slice xa xn xc, .slice a4 n4 c4] 51)) = W4 at hbx hO5 ⊢; have hBB := Nat.lt_of_lt_of_le S3.out hO4.2.2.2; clear hO4 hO4'; generalize w4.heap.size = B at hbx hBB ⊢)
            obtain ⟨hX, F0, F1⟩ := hbx
            have F2 := hX.keeps KM1.out
            have HF0 := Lib.hid F0
            have HF1 := Lib.hid F1
            have HF2 := Lib.hid F2
            have HX := Lib.hid hX
            have HE24 := Lib.hid (HE23.out.trans hX)
            have HFI := Lib.hid (show Fine S w2 W4 (⟨⟨xa, xn, xc, a4, n4, c4⟩, ⟨yv, linR (rows yps)⟩⟩ : P) from ⟨⟨⟨HVV.out.1.ext HE24.out, hO5.rd⟩, off_old HVV.out.1, hO5.off (by decide)⟩, HVV.out.2, hO5.inn (HU.out.ext (HW.out.trans HE23.out))⟩)
            have SB := World.block_lt_of_cell? _ _ F0
            clear hX hO5 F0 F1 F2 f4 f5
            go_wp2_with fail
            have HRQ := Lib.hid (fun (w' : World) (vx : Value) (hr : RdG w' vx [(⟨⟨xa, xn, xc, a4, n4, c4⟩, ⟨yv, linR (rows yps)⟩⟩ : P)]) => rep_prg (⟨⟨xa, xn, xc, a4, n4, c4⟩, ⟨yv, linR (rows yps)⟩⟩ : P) (timI cc nn) vx w' hr HFF.out)
            have LX := Lib.hid ((Ext.refl W4).alloc #[.slice xa xn xc, .slice a4 n4 c4] 51)
            go_region_held3 (fun w' => w'.cell? ⟨B, 0, none⟩ = some (.slice xa xn xc) ∧ w'.cell? ⟨B, 1, none⟩ = some (.slice a4 n4 c4) ∧ w'.cell? ⟨wr.heap.size, 1, none⟩ = some (.slice xb xm xd))
              (first | exact ⟨HF0.out, HF1.out, HF2.out⟩ | exact ⟨LX.out.keeps HF0.out, LX.out.keeps HF1.out, LX.out.keeps HF2.out⟩ | exact ⟨f0, f1, f2⟩ | exact ⟨r0, r1, r2⟩ | go_keep)
              (first
                | (go_at_call 72; refine (HNN.out _).mono ?_; rintro e w5 ⟨rfl, rfl⟩)
                | (go_at_call 105; refine (HRQ.out _ _ ?_).mono ?_; (first | exact rd_litG W4 [(⟨⟨xa, xn, xc, a4, n4, c4⟩, ⟨yv, linR (rows yps)⟩⟩ : P)] #[.slice xa xn xc, .slice a4 n4 c4] 51 _ 1 rfl rfl (by simp) rfl); rintro e w6 ⟨v6, rfl, hO6'⟩; obtain ⟨a6, n6, c6, hv6⟩ : ∃ a6 n6 c6, v6 = .slice a6 n6 c6 := (by obtain ⟨a, b, e, _⟩ := hO6'.rd.shape; exact ⟨a, _, b, e⟩); subst hv6; have hO6 : OwnG tP.e (W4.alloc (.cells #[.slice xa xn xc, .slice a4 n4 c4] 51)) w6 (.slice a6 n6 c6) (List.replicate (timI cc nn) (⟨⟨xa, xn, xc, a4, n4, c4⟩, ⟨yv, linR (rows yps)⟩⟩ : P)) := hO6'; have hE6 := LX.out.trans hO6.2; have f0 := hE6.keeps HF0.out; have f1 := hE6.keeps HF1.out; have f2 := hE6.keeps HF2.out; have HO6 := Lib.hid hO6; have HE6 := Lib.hid hE6; clear hO6 hO6' hE6)
                | (refine step_appG tP rfl _ _ rfl w2 _ rs rfl ?a1 _ (List.replicate (timI cc nn) (⟨⟨xa, xn, xc, a4, n4, c4⟩, ⟨yv, linR (rows yps)⟩⟩ : P)) rfl ?a2 ?a3 ?_; (have z1 := HQ1.out.ext (EX.out.trans (HE3.out.trans (HX.out.trans HE6.out))); case a1 => exact z1); (case a2 => exact HO6.out.rd); (case a3 => have := HQL.out; have := HFF.out; simp; omega); intro v7 w7 hO7 hg7; have r0 := grow_cell hg7 f0 (fun kk hh => by have := HQB.out kk hh; omega); have r1 := grow_cell hg7 f1 (fun kk hh => by have := HQB.out kk hh; omega); have r2 := grow_cell hg7 f2 (fun kk hh => by have := HQB.out kk hh; omega)))
            all_goals
              go_wp2_with fail
              go_roundw
              case rel =>
                refine ⟨k2 + 1, HL.out, by go_num, ?_⟩
                have hx := EX.out.trans (HE3.out.trans (HX.out.trans HE6.out))
                rw [HST.out, show List.replicate (timI cc nn) (⟨yv, linR (rows yps)⟩ : R) = rows (List.replicate (timI cc nn) (⟨⟨xa, xn, xc, a4, n4, c4⟩, ⟨yv, linR (rows yps)⟩⟩ : P)) by unfold rows; rw [List.map_replicate]]
                refine OwnQ.app (HQ1.out.ext hx) (fun p hp => (HQ2.out p hp).ext hx) HQ3.out (fun p hp => ?_) hO7 hg7
                obtain rfl := List.eq_of_mem_replicate hp
                exact HFI.out.ext HE6.out
              case measure => simp [intOf]; omega
        · have hke2 : cs.take k2 = cs := List.take_of_length_le (by rw [← HTC.out]; omega)
          rw [hke2] at hO
          have HO := Lib.hid hO
          clear hke2 hO
          go_wp2_with fail
          go_ret
          exact HO.out.roP HW.out (HU.out.ext HW.out)
end Go.Proofs.YtbplapkcleipiaaGreatDoor
