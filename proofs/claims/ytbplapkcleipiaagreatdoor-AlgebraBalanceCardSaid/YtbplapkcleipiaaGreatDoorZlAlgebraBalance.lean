/- The law AlgebraBalance. -/
import Derived.Test.YtbplapkcleipiaaGreatDoorZy3
import Derived.Test.YtbplapkcleipiaaGreatDoorZy5
import Derived.Test.YtbplapkcleipiaaGreatDoorZy6
namespace Go.Proofs.YtbplapkcleipiaaGreatDoor
open Go.ChangeShapes Go.WideShapes Go.ChangeAt Go.RowKit

theorem pz0_good : GoodX 10 pz0 := fun x hx => by
  simp only [pz0, List.mem_cons, List.not_mem_nil, or_false] at hx
  rcases hx with rfl | rfl <;> exact good_nul 10
theorem bal_eval (k : Int) (hk : k = 6 ∨ k = 7 ∨ k = 8) (x y z : List R) (vn ve vd : Value) (w : World) (hG : PT w) (hn : RdN w vn (qz0 k 0 1)) (he : RdG w ve pz0) (hd : RdB9 UU w vd (dbs x y)) (hx : RowsB 10 Z5 6 x) (hy : RowsB 10 Z5 6 y) (hxl : x.length ≤ 4096) (hyl : y.length ≤ 4096)
    (hz : evN clsF pz0 (dbs x y) [[1, 2], [1, 2], [1, 2]] ⟨k, 0, 1, 1, [], [], []⟩ [x, y] = z) (hzl : z.length ≤ 4096) : Calls Tryz.prog 12 #[.agg #[vn, ve], vd] w (SoP z w) :=
  (evQ_prg UU 10 Z5 pz0 (qz0 k 0 1) (dbs x y) vn ve vd w hn he hd (up_UU _) hG pz0_good (by omega) (by simp [Z5]) (dbs_bd hx hy) (fun n hn => by
    simp only [qz0, List.mem_cons, List.not_mem_nil, or_false] at hn
    rcases hn with rfl | rfl | rfl <;> simp) (by simp [dbs])).mono fun _ _ h => ev_so h (bq_ev x y k hk hxl hyl z hz hzl)
set_option maxHeartbeats 8000000 in
set_option maxRecDepth 100000 in
theorem law_AlgebraBalance (l1 l2 : List Five) (v1 v2 : Value) (w : World) (hG : PT w) (h1 : RdG w v1 l1) (h2 : RdG w v2 l2) (ok1 : ∀ x ∈ l1, x.ok) (ok2 : ∀ x ∈ l2, x.ok) :
    Calls Tryz.prog 5 #[v1, v2] w fun e w' => e = .returned (.bool true) ∧ Ext w w' := by
  have HR1 := Lib.hid (rows_law 8 (by omega) l1 v1 w h1 ok1)
  have HR2 := Lib.hid (fun w' (hE : Ext w w') => rows_law 8 (by omega) l2 v2 w' (h2.ext hE) ok2)
  have HND := Lib.hid (fun k vl w' hl => nodes0_prg k 0 1 vl w' hl)
  have HG := Lib.hid hG
  obtain ⟨a1, c1, rfl, _, _⟩ := h1.shape
  obtain ⟨a2, c2, rfl, _, _⟩ := h2.shape
  clear h1 h2 ok1 ok2 hG
  go_enter Tryz.func5, Tryz.ntmps5
  go_wp2_with fail
  refine HR1.out.mono ?_; rintro e w1 ⟨x1, ps, rfl, p1, p2, p3, p4, hE1⟩
  have HP := Lib.hid p1
  have HPA := Lib.hid p2
  have HP3 := Lib.hid p3
  have HP4 := Lib.hid p4
  have HE1 := Lib.hid hE1
  obtain ⟨xa, xc, rfl, _, _⟩ := p1.shape
  clear p1 p2 p3 p4 hE1
  go_wp2_with fail
  refine (HR2.out _ HE1.out).mono ?_; rintro e w2 ⟨x2, qs, rfl, q1, q2, q3, q4, hE2⟩
  have HQ := Lib.hid q1
  have HQA := Lib.hid q2
  have HQ3 := Lib.hid q3
  have HQ4 := Lib.hid q4
  have HE2 := Lib.hid hE2
  have HE02 := Lib.hid (HE1.out.trans hE2)
  obtain ⟨ya, yc, rfl, _, _⟩ := q1.shape
  clear q1 q2 q3 q4 hE2
  go_wp2_with fail
  refine (rowdb_prg (rows ps) (rows qs) _ _ w2 (rdR_of (HP.out.ext HE2.out) (fun p hp => (HPA.out p hp).ext HE2.out)) (rdR_of HQ.out HQA.out)).mono ?_; rintro e w3 ⟨vd, rfl, hd, hE3⟩
  have HD := Lib.hid hd
  have HE03 := Lib.hid (HE02.out.trans hE3)
  have HE23 := Lib.hid hE3
  obtain ⟨da, dc, rfl, _, _⟩ := hd.shape
  have HXL := Lib.hid (show (rows ps).length ≤ 8 by rw [rows_len]; exact HP3.out)
  have HYL := Lib.hid (show (rows qs).length ≤ 8 by rw [rows_len]; exact HQ3.out)
  have HEV := Lib.hid (fun (k : Int) (hk : k = 6 ∨ k = 7 ∨ k = 8) (z : List R) (vn ve : Value) (w' : World) (hE : Ext w3 w') (hn : RdN w' vn (qz0 k 0 1)) (he : RdG w' ve pz0) (hz : evN clsF pz0 (dbs (rows ps) (rows qs)) [[1, 2], [1, 2], [1, 2]] ⟨k, 0, 1, 1, [], [], []⟩ [rows ps, rows qs] = z) (hzl : z.length ≤ 4096) =>
    bal_eval k hk (rows ps) (rows qs) z vn ve _ w' (HG.out.ext (HE03.out.trans hE)) hn he (HD.out.ext hE) (gd_rows HP4.out) (gd_rows HQ4.out) (by have := HXL.out; omega) (by have := HYL.out; omega) hz hzl)
  have HBL := Lib.hid (bal_len (rows ps) (rows qs))
  clear hd hE3
  go_wp2_with fail
  refine (HND.out 7 _ _ (rd_litG w3 ([⟨hd0, ⟨7, 0, 1, 0, [], [], []⟩⟩] : List NdP) #[.int .i64 7, .int .i64 0, .int .i64 1, .int .i64 0, sv [], .slice none 0 0, .slice none 0 0] 45 _ 1 rfl rfl (by simp) rfl)).mono ?_; rintro e w4 ⟨vnD, veD, rfl, hnD, heD, hE'⟩
  have HEaD := Lib.hid (show Ext w3 w4 from ((Ext.refl w3).alloc _ _).trans hE')
  have HEnD := Lib.hid (show Ext w3 w4 from ((Ext.refl w3).alloc _ _).trans hE')
  have HNqD := Lib.hid hnD
  have HXD := Lib.hid heD
  clear hE' hnD heD
  go_wp2_with fail
  refine (HEV.out 7 (by simp) ((clsF R.v (rows ps ++ rows qs)).flatMap (cmbC timE (rows ps))) vnD veD w4 HEaD.out HNqD.out HXD.out (bq_exc _ _) (by have := HBL.out; have := HXL.out; omega)).mono ?_; rintro e w5 ⟨aD, cD, ds, rfl, rD1, rD2, rD3, hE'⟩
  have HED := Lib.hid (show Ext w3 w5 from HEaD.out.trans hE')
  have HRD := Lib.hid rD1
  have HAD := Lib.hid rD2
  have HSD := Lib.hid rD3
  have HEcD := Lib.hid (HEnD.out.trans hE')
  clear hE' rD1 rD2 rD3
  go_wp2_with fail
  refine (HND.out 8 _ _ (rd_litG w5 ([⟨hd0, ⟨8, 0, 1, 0, [], [], []⟩⟩] : List NdP) #[.int .i64 8, .int .i64 0, .int .i64 1, .int .i64 0, sv [], .slice none 0 0, .slice none 0 0] 45 _ 1 rfl rfl (by simp) rfl)).mono ?_; rintro e w6 ⟨vnM, veM, rfl, hnM, heM, hE'⟩
  have HEaM := Lib.hid (show Ext w3 w6 from (HED.out.alloc _ _).trans hE')
  have HEnM := Lib.hid (show Ext w5 w6 from ((Ext.refl w5).alloc _ _).trans hE')
  have HNqM := Lib.hid hnM
  have HXM := Lib.hid heM
  clear hE' hnM heM
  go_wp2_with fail
  refine (HEV.out 8 (by simp) ((clsF R.v (rows ps ++ rows qs)).flatMap (cmbC timI (rows ps))) vnM veM w6 HEaM.out HNqM.out HXM.out (bq_int _ _) (by have := HBL.out; have := HXL.out; omega)).mono ?_; rintro e w7 ⟨aM, cM, ms, rfl, rM1, rM2, rM3, hE'⟩
  have HEM := Lib.hid (show Ext w3 w7 from HEaM.out.trans hE')
  have HRM := Lib.hid rM1
  have HAM := Lib.hid rM2
  have HSM := Lib.hid rM3
  have HEcM := Lib.hid (HEnM.out.trans hE')
  clear hE' rM1 rM2 rM3
  go_wp2_with fail
  refine (HND.out 6 _ _ (rd_litG w7 ([⟨hd0, ⟨6, 0, 1, 0, [], [], []⟩⟩] : List NdP) #[.int .i64 6, .int .i64 0, .int .i64 1, .int .i64 0, sv [], .slice none 0 0, .slice none 0 0] 45 _ 1 rfl rfl (by simp) rfl)).mono ?_; rintro e w8 ⟨vnU, veU, rfl, hnU, heU, hE'⟩
  have HEaU := Lib.hid (show Ext w3 w8 from (HEM.out.alloc _ _).trans hE')
  have HEnU := Lib.hid (show Ext w7 w8 from ((Ext.refl w7).alloc _ _).trans hE')
  have HNqU := Lib.hid hnU
  have HXU := Lib.hid heU
  clear hE' hnU heU
  go_wp2_with fail
  refine (HEV.out 6 (by simp) (rows ps ++ rows qs) vnU veU w8 HEaU.out HNqU.out HXU.out (bq_union _ _) (by rw [List.length_append]; have := HXL.out; have := HYL.out; omega)).mono ?_; rintro e w9 ⟨aU, cU, us, rfl, rU1, rU2, rU3, hE'⟩
  have HEU := Lib.hid (show Ext w3 w9 from HEaU.out.trans hE')
  have HRU := Lib.hid rU1
  have HAU := Lib.hid rU2
  have HSU := Lib.hid rU3
  have HEcU := Lib.hid (HEnU.out.trans hE')
  clear hE' rU1 rU2 rU3
  go_wp2_with fail
  have HPW := Lib.hid (HP.out.ext (HE2.out.trans (HE23.out.trans HEU.out)))
  have HPAW := Lib.hid (show RdAll w9 ps from fun p hp => (HPA.out p hp).ext (HE2.out.trans (HE23.out.trans HEU.out)))
  have HQW := Lib.hid (HQ.out.ext (HE23.out.trans HEU.out))
  have HQAW := Lib.hid (show RdAll w9 qs from fun p hp => (HQA.out p hp).ext (HE23.out.trans HEU.out))
  have HDW := Lib.hid (HRD.out.ext (HEcM.out.trans HEcU.out))
  have HDAW := Lib.hid (show RdAll w9 ds from fun p hp => (HAD.out p hp).ext (HEcM.out.trans HEcU.out))
  have HMW := Lib.hid (HRM.out.ext HEcU.out)
  have HMAW := Lib.hid (show RdAll w9 ms from fun p hp => (HAM.out p hp).ext HEcU.out)
  have HUW := Lib.hid HRU.out
  have HLU := Lib.hid (show us.length = ps.length + qs.length by have h := congrArg List.length HSU.out; rw [rows_len, sortR_len, List.length_append, rows_len, rows_len] at h; exact h)
  have HLD := Lib.hid (show ds.length + ms.length = ps.length by
    have h := congrArg List.length HSD.out
    have h2 := congrArg List.length HSM.out
    rw [rows_len, sortR_len] at h h2
    have h3 := HBL.out
    rw [rows_len] at h3; omega)
  have HCN := Lib.hid (show ∀ p ∈ us, cnt (rows ds) p.r.v + cnt (rows ms) p.r.v = cnt (rows ps) p.r.v ∧ cnt (rows us) p.r.v = cnt (rows ps) p.r.v + cnt (rows qs) p.r.v ∧ cnt (rows us) p.r.v ≤ 16 from fun p hp => by
    have hm : p.r ∈ rows us := List.mem_map_of_mem hp
    have h0 : 0 < cnt (rows ps ++ rows qs) p.r.v := by
      rw [HSU.out] at hm
      exact cnt_pos ((sortR_perm _).mem_iff.1 hm)
    have h1 := bal_cnt (rows ps) (rows qs) p.r.v h0
    have e1 := cnt_perm (sortR_perm ((clsF R.v (rows ps ++ rows qs)).flatMap (cmbC timE (rows ps)))) p.r.v
    have e2 := cnt_perm (sortR_perm ((clsF R.v (rows ps ++ rows qs)).flatMap (cmbC timI (rows ps)))) p.r.v
    have e3 := cnt_perm (sortR_perm (rows ps ++ rows qs)) p.r.v
    rw [← HSD.out] at e1
    rw [← HSM.out] at e2
    rw [← HSU.out, cnt_app] at e3
    have l1 := cnt_le (rows ps) p.r.v
    have l2 := cnt_le (rows qs) p.r.v
    have := HXL.out
    have := HYL.out
    omega)
  obtain ⟨un, hun⟩ : ∃ un, un = us.length := ⟨_, rfl⟩
  have HUN := Lib.hid hun
  rw [← hun] at HUW ⊢
  have hub : un ≤ 16 := by have := HUN.out; have := HLU.out; have := HP3.out; have := HQ3.out; omega
  clear hun
  go_loopw [52] (fun i wr => ∃ k : Nat, k ≤ un ∧ i = .int .i64 k ∧ Ext w9 wr) (fun i _ => un - (intOf i).toNat)
  case atStart => exact ⟨0, Nat.zero_le _, rfl, Ext.refl _⟩
  case round =>
    obtain ⟨k, hk, rfl, hE⟩ := hrel
    by_cases hlt : k < un
    · have hlt' : k < us.length := by rw [← HUN.out]; exact hlt
      have hsh := HUW.out
      obtain ⟨g, o, rfl, d0', d1'⟩ := rd_P HUW.out k hlt'
      have d0 := hE.keeps d0'
      have d1 := hE.keeps d1'
      clear d0' d1' hsh
      obtain ⟨n1, n2, n3⟩ := HCN.out us[k] (List.getElem_mem _)
      have hrd := HAU.out us[k] (List.getElem_mem _)
      generalize us[k] = y at *
      obtain ⟨⟨ya1, yn1, yc1, yb1, ym1, yd1⟩, yr⟩ := y
      simp only [Hd.x, Hd.y] at d0 d1 n1 n2 n3 hrd
      have hv := hrd.1
      simp only [Hd.x] at hv
      have HMD := Lib.hid (fun w' (hE : Ext w9 w') => mult_prg ds yr.v _ (.slice ya1 yn1 yc1) w' (HDW.out.ext hE) (fun p hp => (HDAW.out p hp).ext hE) (hv.ext hE))
      have HMM := Lib.hid (fun w' (hE : Ext w9 w') => mult_prg ms yr.v _ (.slice ya1 yn1 yc1) w' (HMW.out.ext hE) (fun p hp => (HMAW.out p hp).ext hE) (hv.ext hE))
      have HMU := Lib.hid (fun w' (hE : Ext w9 w') => mult_prg us yr.v _ (.slice ya1 yn1 yc1) w' (HUW.out.ext hE) (fun p hp => (HAU.out p hp).ext hE) (hv.ext hE))
      have HMX := Lib.hid (fun w' (hE : Ext w9 w') => mult_prg ps yr.v _ (.slice ya1 yn1 yc1) w' (HPW.out.ext hE) (fun p hp => (HPAW.out p hp).ext hE) (hv.ext hE))
      have HMY := Lib.hid (fun w' (hE : Ext w9 w') => mult_prg qs yr.v _ (.slice ya1 yn1 yc1) w' (HQW.out.ext hE) (fun p hp => (HQAW.out p hp).ext hE) (hv.ext hE))
      generalize cnt (rows ds) yr.v = cD at HMD n1
      generalize cnt (rows ms) yr.v = cM at HMM n1
      generalize cnt (rows us) yr.v = cU at HMU n2 n3
      generalize cnt (rows ps) yr.v = cX at HMX n1 n2
      generalize cnt (rows qs) yr.v = cY at HMY n2
      have m1 : (cD : Int) + (cM : Int) = (cX : Int) := by omega
      have m2 : (cX : Int) + (cY : Int) = (cU : Int) := by omega
      have m3 := wrapI (cX : Int) (by omega) (by omega)
      have m4 := wrapI (cU : Int) (by omega) (by omega)
      have EX := Lib.hid (show Ext w9 (wr.alloc (.cells #[.slice ya1 yn1 yc1, .slice yb1 ym1 yd1] 51)) from hE.alloc _ _)
      have K0 := Lib.hid (al0 wr (.slice ya1 yn1 yc1) (.slice yb1 ym1 yd1) 51)
      have HL := Lib.hid hlt
      clear hrd hv n1 n2 n3 hE
      go_wp2_with fail
      go_region_held3 (fun w' => w'.cell? ⟨wr.heap.size, 0, none⟩ = some (.slice ya1 yn1 yc1)) (first | exact K0.out | exact f1 | exact f2 | exact f3 | exact f4 | exact f5 | exact f6 | go_keep)
        (first
          | (go_at_call 19; refine (HMY.out _ (EX.out.trans e5)).mono ?_; rintro e x6 ⟨rfl, hE'⟩; have e6 : Ext (wr.alloc (.cells #[.slice ya1 yn1 yc1, .slice yb1 ym1 yd1] 51)) x6 := (e5).trans hE'; have f6 := e6.keeps K0.out; clear hE')
          | (go_at_call 19; refine (HMX.out _ (EX.out.trans e4)).mono ?_; rintro e x5 ⟨rfl, hE'⟩; have e5 : Ext (wr.alloc (.cells #[.slice ya1 yn1 yc1, .slice yb1 ym1 yd1] 51)) x5 := (e4).trans hE'; have f5 := e5.keeps K0.out; clear hE')
          | (go_at_call 19; refine (HMU.out _ (EX.out.trans e3)).mono ?_; rintro e x4 ⟨rfl, hE'⟩; have e4 : Ext (wr.alloc (.cells #[.slice ya1 yn1 yc1, .slice yb1 ym1 yd1] 51)) x4 := (e3).trans hE'; have f4 := e4.keeps K0.out; clear hE')
          | (go_at_call 19; refine (HMX.out _ (EX.out.trans e2)).mono ?_; rintro e x3 ⟨rfl, hE'⟩; have e3 : Ext (wr.alloc (.cells #[.slice ya1 yn1 yc1, .slice yb1 ym1 yd1] 51)) x3 := (e2).trans hE'; have f3 := e3.keeps K0.out; clear hE')
          | (go_at_call 19; refine (HMM.out _ (EX.out.trans e1)).mono ?_; rintro e x2 ⟨rfl, hE'⟩; have e2 : Ext (wr.alloc (.cells #[.slice ya1 yn1 yc1, .slice yb1 ym1 yd1] 51)) x2 := (e1).trans hE'; have f2 := e2.keeps K0.out; clear hE')
          | (go_at_call 19; refine (HMD.out _ ?e).mono ?_; (case e => first | exact EX.out | exact EX.out.drew); rintro e x1 ⟨rfl, hE'⟩; have e1 : Ext (wr.alloc (.cells #[.slice ya1 yn1 yc1, .slice yb1 ym1 yd1] 51)) x1 := (by first | exact hE' | exact (Ext.refl _).drew.trans hE'); have f1 := e1.keeps K0.out; clear hE'))
      all_goals
        go_wp2_with fail
        go_roundw
        case rel => exact ⟨k + 1, HL.out, by go_num, EX.out.trans e6⟩
        case measure => simp [intOf]; omega
    · have t1 := HP3.out
      have t2 := HQ3.out
      have t3 : (ps.length : Int) + (qs.length : Int) = (un : Int) := by have := HUN.out; have := HLU.out; omega
      have t4 : (ds.length : Int) + (ms.length : Int) = (ps.length : Int) := by have := HLD.out; omega
      have hEE := Lib.hid (HE03.out.trans (HEU.out.trans hE))
      clear hE
      go_wp2_with fail
      refine (awake_law _ (HG.out.ext hEE.out)).mono ?_; rintro e w10 ⟨rfl, hE10⟩
      have HE10 := Lib.hid hE10
      clear hE10
      go_wp2_with fail
      go_ret
      exact ⟨rfl, hEE.out.trans HE10.out⟩
end Go.Proofs.YtbplapkcleipiaaGreatDoor
