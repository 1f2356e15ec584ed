/- The reference's Normalize, walked. -/
import Derived.Test.YtnckdopphimgoaaGreatZz37
namespace Go.Proofs.YtnckdopphimgoaaGreat
open Go.ChangeShapes Go.WideShapes Go.ChangeAt Go.RowKit

set_option maxHeartbeats 16000000 in
set_option maxRecDepth 100000 in
theorem norm_ref9 (ps : List TP) (v : Value) (w : World) (h : RdG w v ps) (hI : RdTs w ps) (hl : ps.length ≤ 400) : Calls Tryz.prog 15 #[v] w (NzQ ps w) := by
  obtain ⟨ad, cap, rfl, h1, h2⟩ := h.shape
  have H := Lib.hid h
  have HI := Lib.hid hI
  clear h hI
  unfold maxLen at h2
  obtain ⟨n, hn⟩ : ∃ n, n = ps.length := ⟨_, rfl⟩
  have HN := Lib.hid hn
  rw [← hn] at H h1 hl ⊢
  clear hn
  go_enter Tryz.func15, Tryz.ntmps15
  go_wp2_with fail
  go_loopw [3, 15] (N1R w ps) (fun _ i _ => n - (intOf i).toNat)
  case atStart => exact ⟨0, Nat.zero_le _, rfl, OwnG.nil _ _ _ (Ext.refl _)⟩
  case round =>
    obtain ⟨k, hk, rfl, hO⟩ := hrel
    have hkn : k ≤ n := by rw [HN.out]; exact hk
    by_cases hlt : k < n
    · have hlt' : k < ps.length := by rw [← HN.out]; exact hlt
      obtain ⟨g, o, rfl, c0', c1', c2', c3'⟩ := rd_T H.out k hlt'
      have c0 := hO.2.keeps c0'
      have c1 := hO.2.keeps c1'
      have c2 := hO.2.keeps c2'
      have c3 := hO.2.keeps c3'
      clear c0' c1' c2' c3'
      have HX := Lib.hid (map_take TP.row hlt')
      have hfl : ((ps.take k).map TP.row).length ≤ 1000000 := by rw [List.length_map, List.length_take]; omega
      have hi0 : (0 : Int) ≤ (k : Int) := by omega
      have hi1 : (k : Int) < (n : Int) := by omega
      have hro := fun w2 => row_ref ps[k] w2
      generalize ps[k] = x at *
      obtain ⟨⟨xa, xn, xc, xb, xm, xd⟩, xr, pa, pb⟩ := x
      simp only [Hd.x, Hd.y, tv] at c0 c1 c2 c3 hro
      have hE0 : Ext wr (wr.alloc (.cells #[.slice xa xn xc, .int .i64 pa, .int .i64 pb, .slice xb xm xd] 42)) := (Ext.refl wr).alloc _ _
      have HRO := Lib.hid hro
      have HO := Lib.hid hO
      have HFL := Lib.hid hfl
      have HE0 := Lib.hid hE0
      clear hO hfl hro hE0
      generalize (ps.take k).map TP.row = os at *
      go_wp2_with fail
      refine (HRO.out _).mono ?_; rintro e w2 ⟨rfl, hg2⟩
      have HE2 := Lib.hid (HE0.out.trans hg2.ext)
      clear c0 c1 c2 c3 hg2
      go_wp2_with (at_builtin; refine appG tP rfl _ _ rfl w _ os rfl ?a1 _ [(⟨⟨xa, xn, xc, xb, xm, xd⟩, xr⟩ : P)] rfl ?a2 ?a3 ?_; (case a1 => exact HO.out.ext (HE2.out.trans ((Ext.refl w2).alloc _ _))); (case a2 => exact rd_litG _ [(⟨⟨xa, xn, xc, xb, xm, xd⟩, xr⟩ : P)] #[.slice xa xn xc, .slice xb xm xd] 36 _ 1 rfl rfl (by simp) rfl); (case a3 => have := HFL.out; simp; omega); intro v5 w5 hO5 hg5)
      go_roundw
      case rel => exact ⟨k + 1, hlt', by go_num, by rw [HX.out]; exact hO5⟩
      case measure => simp [intOf]; omega
    · have hke : k = n := by omega
      have hall : ps.take k = ps := by rw [List.take_of_length_le]; rw [← HN.out, hke]; exact Nat.le_refl _
      have hdk : decide ((k : Int) < (n : Int)) = false := by simp; omega
      rw [hall] at hO
      clear hke
      have HO := Lib.hid hO
      have HLE := Lib.hid (show (ps.map TP.row).length ≤ 1000000 by rw [List.length_map]; have := HN.out; omega)
      have HIR := Lib.hid (show RdAll wr (ps.map TP.row) from fun p hp => by
        obtain ⟨q, hq, rfl⟩ := List.mem_map.1 hp
        exact ((HI.out q hq).ext hO.2).row)
      clear hO hall
      go_wp2_with fail
      refine (sort_ref _ _ _ wr HO.out.rd HIR.out (Nat.le_refl _) HLE.out).mono ?_; rintro e w2 ⟨v2, qs, rfl, q1, q2, q3⟩
      have HQO := Lib.hid q1
      have HQP := Lib.hid q2
      have HQS := Lib.hid (show Srtd (rows qs) by rw [q3]; exact sortR_srtd _)
      have HQR := Lib.hid q1.rd
      have HQI := Lib.hid (show RdAll w2 qs from fun p hp => (HIR.out p (q2.mem_iff.1 hp)).ext q1.2)
      have HEW := Lib.hid (HO.out.2.trans q1.2)
      obtain ⟨aq, cq, rfl, z1, z2⟩ := q1.rd.shape
      have HQL := Lib.hid (show qs.length = n by rw [q2.length_eq, List.length_map, HN.out])
      rw [HQL.out] at z1 HQR
      simp only [HQL.out]
      unfold maxLen at z2
      clear q1 q2 q3 HIR HLE
      go_wp2_with fail
      obtain ⟨wB, hwB⟩ : ∃ x, x = w2 := ⟨_, rfl⟩
      rw [← hwB] at HQR HQI HEW ⊢
      clear hwB HQO HO
      go_loopw [6, 7] (N2R wB ps qs) (fun _ i _ => n - (intOf i).toNat)
      case atStart => exact ⟨0, [], Nat.zero_le _, rfl, OwnG.nil _ _ _ (Ext.refl _), Lib.hid (NrI.start ps qs), Lib.hid (fun p hp => absurd hp List.not_mem_nil)⟩
      case round =>
        obtain ⟨i, N, hi, rfl, hON, HNI, HRN⟩ := hrel
        have hin : i ≤ n := by rw [← HQL.out]; exact hi
        have hi0 : (0 : Int) ≤ (i : Int) := by omega
        by_cases hil : i < n
        · have hil' : i < qs.length := by rw [HQL.out]; exact hil
          have hi1 : (i : Int) < (n : Int) := by omega
          have hdi : decide ((i : Int) < (n : Int)) = true := by simp; omega
          obtain ⟨gq, oq, rfl, k0, k1⟩ := rd_P HQR.out i hil'
          have HIY := Lib.hid (show RdT wB ⟨qs[i].h, qs[i].r, 0, 0⟩ from HQI.out qs[i] (List.getElem_mem _))
          have HG2 := Lib.hid (World.block_lt_of_cell? _ _ k0)
          cases i with
          | zero =>
            obtain ⟨y, hy⟩ : ∃ y, qs[0] = y := ⟨_, rfl⟩
            rw [hy] at k0 k1 HIY
            have HQX := Lib.hid hy
            clear hy
            obtain ⟨⟨ya, yn, yc, yb, ym, yd⟩, yr⟩ := y
            simp only [Hd.x, Hd.y, Nat.zero_mul, Nat.add_zero] at k0 k1
            have K0 := Lib.hid k0
            have K1 := Lib.hid k1
            clear k0 k1
            go_wp2_with fail
            go_quiet (fail)
            have HWQ := Lib.hid (hON.ext (show Ext wr (wr.drewN nq) from Ext.refl wr))
            generalize wr.drewN nq = wr at *
            clear hON
            go_wp2_with fail
            obtain ⟨wC, hwC⟩ : ∃ x, x = wr := ⟨_, rfl⟩
            rw [← hwC] at HWQ ⊢
            clear hwC
            go_loopw [8, 49] (N3R wB ps yr u6 N) (fun _ i _ => n - (intOf i).toNat)
            case atStart => exact ⟨0, Nat.zero_le _, rfl, ⟨HWQ.out, OwnG.nil _ _ _ HWQ.out.2, fun g hg e => by cases e⟩⟩
            case round =>
              obtain ⟨j, hj, rfl, hD⟩ := hrel
              have hjn : j ≤ n := by rw [HN.out]; exact hj
              have hj0 : (0 : Int) ≤ (j : Int) := by omega
              by_cases hjl : j < n
              · have hjl' : j < ps.length := by rw [← HN.out]; exact hjl
                have hj1 : (j : Int) < (n : Int) := by omega
                obtain ⟨g, o, rfl, c0', c1', c2', c3'⟩ := rd_T H.out j hjl'
                have hEE := HEW.out.trans hD.l.2
                have c0 := hEE.keeps c0'
                have c1 := hEE.keeps c1'
                have c2 := hEE.keeps c2'
                have c3 := hEE.keeps c3'
                clear c0' c1' c2' c3'
                have e0 := hD.l.2.keeps K0.out
                have e1 := hD.l.2.keeps K1.out
                have HFY := Lib.hid (filt_yes (f := sameR yr) hjl')
                have HFZ := Lib.hid (filt_no (f := sameR yr) hjl')
                have hgl : ((ps.take j).filter (sameR yr)).length ≤ 400 := by have := filt_len (sameR yr) ps j; have := HN.out; omega
                have hix := (HI.out ps[j] (List.getElem_mem _)).ext hEE
                have hro := fun w2 => row_ref ps[j] w2
                have hcv := fun w0 w2 (hg : Ext wr w0) (hg2 : Ext w0 w2) => sameRowE w0 ps[j].row ⟨⟨ya, yn, yc, yb, ym, yd⟩, yr⟩ w2 (hix.ext hg).row ((HIY.out.ext hD.l.2).ext hg) hg2
                generalize ps[j] = x at *
                have hsr : sameR yr x = sameB x.r yr := rfl
                obtain ⟨⟨xa, xn, xc, xb, xm, xd⟩, xr, pa, pb⟩ := x
                simp only [Hd.x, Hd.y, tv] at c0 c1 c2 c3 hro hcv hsr
                clear hix hEE
                obtain ⟨b0, b1, b2, b3⟩ := box4 wr (.slice xa xn xc) (.int .i64 pa) (.int .i64 pb) (.slice xb xm xd) 42
                have hE0 : Ext wr (wr.alloc (.cells #[.slice xa xn xc, .int .i64 pa, .int .i64 pb, .slice xb xm xd] 42)) := (Ext.refl wr).alloc _ _
                have l0 := hE0.keeps e0
                have l1 := hE0.keeps e1
                obtain ⟨bx, hbx⟩ : ∃ z, z = wr.heap.size := ⟨_, rfl⟩
                have HBX := Lib.hid hbx
                rw [← hbx] at b0 b1 b2 b3
                have HD := Lib.hid hD
                have HGL := Lib.hid hgl
                have HCV := Lib.hid (hcv _ · hE0)
                have HRO := Lib.hid hro
                clear hD hgl hro hcv
                have hg2 : gq < wr.heap.size := World.block_lt_of_cell? _ _ e0
                generalize (ps.take j).filter (sameR yr) = G at *
                cases hb : sameB xr yr with
                | true =>
                  have HX := Lib.hid (HFY.out (by rw [hsr, hb]))
                  have HV := Lib.hid HCV.out
                  rw [hb] at HV
                  clear hb hsr HFY HFZ
                  go_wp2_with fail
                  rw [← hbx]
                  generalize wr.alloc (.cells #[.slice xa xn xc, .int .i64 pa, .int .i64 pb, .slice xb xm xd] 42) = w0 at *
                  have B0 := Lib.hid b0
                  have B1 := Lib.hid b1
                  have B2 := Lib.hid b2
                  have B3 := Lib.hid b3
                  have L0 := Lib.hid l0
                  have L1 := Lib.hid l1
                  have hz : bx < w0.heap.size := World.block_lt_of_cell? _ _ b0
                  have hgz : gq < w0.heap.size := World.block_lt_of_cell? _ _ l0
                  clear b0 b1 b2 b3 l0 l1 e0 e1 c0 c1 c2 c3 hbx HCV
                  go_region_held3 (fun w' => w'.cell? ⟨bx, 0, none⟩ = some (.slice xa xn xc) ∧ w'.cell? ⟨bx, 1, none⟩ = some (.int .i64 pa) ∧ w'.cell? ⟨bx, 2, none⟩ = some (.int .i64 pb) ∧ w'.cell? ⟨bx, 3, none⟩ = some (.slice xb xm xd) ∧ w'.cell? ⟨gq, oq, none⟩ = some (.slice ya yn yc) ∧ w'.cell? ⟨gq, oq + 1, none⟩ = some (.slice yb ym yd)) (first | exact ⟨B0.out, B1.out, B2.out, B3.out, L0.out, L1.out⟩ | exact S3.out | exact S4.out | go_keep)
                    (first | (go_at_call 17; refine (HRO.out _).mono ?_; rintro e w3 ⟨rfl, hg3⟩; have e3 : Ext w0 w3 := ⟨hg3.ext.1, hg3.ext.2.1, hg3.ext.2.2⟩; have S3 := Lib.hid (And.intro (e3.keeps B0.out) (And.intro (e3.keeps B1.out) (And.intro (e3.keeps B2.out) (And.intro (e3.keeps B3.out) (And.intro (e3.keeps L0.out) (e3.keeps L1.out)))))); clear hg3) | (go_at_call 16; refine (HV.out _ ?_).mono ?_; (first | exact e3 | exact e3.drew); rintro e w4 ⟨rfl, q0, qG⟩; have S4 := Lib.hid (And.intro (qG.keeps B0.out) (And.intro (qG.keeps B1.out) (And.intro (qG.keeps B2.out) (And.intro (qG.keeps B3.out) (And.intro (qG.keeps L0.out) (qG.keeps L1.out)))))); clear q0))
                  all_goals
                    obtain ⟨s0, s1, s2, s3, _⟩ := S4.out
                    have HEA := Lib.hid ((hE0.trans qG).trans ((Ext.refl w4).alloc #[.slice xa xn xc, .int .i64 pa, .int .i64 pb, .slice xb xm xd] 42))
                    go_wp2_with (at_builtin; refine appGL tT rfl _ _ rfl wB _ G rfl ?a1 _ [(⟨⟨xa, xn, xc, xb, xm, xd⟩, xr, pa, pb⟩ : TP)] rfl ?a2 ?a3 ?_; (case a1 => exact (HD.out.ext HEA.out).m); (case a2 => exact rd_litG _ [(⟨⟨xa, xn, xc, xb, xm, xd⟩, xr, pa, pb⟩ : TP)] #[.slice xa xn xc, .int .i64 pa, .int .i64 pb, .slice xb xm xd] 42 _ 1 rfl rfl (by simp) rfl); (case a3 => have := HGL.out; simp; omega); intro v5 w5 hO5 hg5 hl5; have HD5 := Lib.hid ((HD.out.ext HEA.out).right hO5 hg5 hl5); clear hO5 hg5 hl5)
                    go_roundw
                    case rel => exact ⟨j + 1, hjl', by go_num, by rw [HX.out]; exact HD5.out⟩
                    case measure => first | (simp [intOf]; done) | (simp [intOf]; omega)
                | false =>
                  have HX := Lib.hid (HFZ.out (by rw [hsr, hb]))
                  have HV := Lib.hid HCV.out
                  rw [hb] at HV
                  clear hb hsr HFY HFZ
                  go_wp2_with fail
                  rw [← hbx]
                  generalize wr.alloc (.cells #[.slice xa xn xc, .int .i64 pa, .int .i64 pb, .slice xb xm xd] 42) = w0 at *
                  have B0 := Lib.hid b0
                  have B1 := Lib.hid b1
                  have B2 := Lib.hid b2
                  have B3 := Lib.hid b3
                  have L0 := Lib.hid l0
                  have L1 := Lib.hid l1
                  have hz : bx < w0.heap.size := World.block_lt_of_cell? _ _ b0
                  have hgz : gq < w0.heap.size := World.block_lt_of_cell? _ _ l0
                  clear b0 b1 b2 b3 l0 l1 e0 e1 c0 c1 c2 c3 hbx HCV
                  go_region_held3 (fun w' => w'.cell? ⟨bx, 0, none⟩ = some (.slice xa xn xc) ∧ w'.cell? ⟨bx, 1, none⟩ = some (.int .i64 pa) ∧ w'.cell? ⟨bx, 2, none⟩ = some (.int .i64 pb) ∧ w'.cell? ⟨bx, 3, none⟩ = some (.slice xb xm xd) ∧ w'.cell? ⟨gq, oq, none⟩ = some (.slice ya yn yc) ∧ w'.cell? ⟨gq, oq + 1, none⟩ = some (.slice yb ym yd)) (first | exact ⟨B0.out, B1.out, B2.out, B3.out, L0.out, L1.out⟩ | exact S3.out | exact S4.out | go_keep)
                    (first | (go_at_call 17; refine (HRO.out _).mono ?_; rintro e w3 ⟨rfl, hg3⟩; have e3 : Ext w0 w3 := ⟨hg3.ext.1, hg3.ext.2.1, hg3.ext.2.2⟩; have S3 := Lib.hid (And.intro (e3.keeps B0.out) (And.intro (e3.keeps B1.out) (And.intro (e3.keeps B2.out) (And.intro (e3.keeps B3.out) (And.intro (e3.keeps L0.out) (e3.keeps L1.out)))))); clear hg3) | (go_at_call 16; refine (HV.out _ ?_).mono ?_; (first | exact e3 | exact e3.drew); rintro e w4 ⟨rfl, q0, qG⟩; have S4 := Lib.hid (And.intro (qG.keeps B0.out) (And.intro (qG.keeps B1.out) (And.intro (qG.keeps B2.out) (And.intro (qG.keeps B3.out) (And.intro (qG.keeps L0.out) (qG.keeps L1.out)))))); clear q0))
                  all_goals
                    go_wp2_with fail
                    go_roundw
                    case rel => exact ⟨j + 1, hjl', by go_num, by rw [HX.out]; exact HD.out.ext (hE0.trans qG)⟩
                    case measure => first | (simp [intOf]; done) | (simp [intOf]; omega)
              · have hall : ps.take j = ps := by rw [List.take_of_length_le]; rw [← HN.out]; omega
                rw [hall] at hD
                have HD := Lib.hid hD
                have hdj : decide ((j : Int) < (n : Int)) = false := by simp; omega
                have HGL := Lib.hid (show (ps.filter (sameR yr)).length ≤ 400 by have := List.length_filter_le (sameR yr) ps; have := HN.out; omega)
                clear hD hall
                go_wp2_with fail
                refine (levels_ref (ps.filter (sameR yr)) u8 wr HD.out.m.rd HGL.out).mono ?_; rintro e w5 ⟨v6, L, rfl, hOL, hLv, hLl⟩
                have HSTEP := Lib.hid (HNI.out.step HQS.out hil' HQX.out (Or.inl rfl) hLv hLl)
                have HDU := Lib.hid (show Duo tT.e tPe.e wB w5 u6 v6 N L from ⟨HD.out.l.ext hOL.2, hOL.base HD.out.l.2, fun kk hh e => by
                  have h1 := HD.out.l.lt kk hh
                  have h2 := (hOL.blk kk e).1
                  omega⟩)
                have hNl := HNI.out.len
                have hNl2 : N.length ≤ 400 * (400 * 800) := Nat.le_trans hNl (Nat.mul_le_mul_right _ (by omega))
                obtain ⟨aL, cL, rfl, hL1, hL2⟩ := hOL.rd.shape
                obtain ⟨nl, hnl2⟩ : ∃ z, z = L.length := ⟨_, rfl⟩
                have HNL := Lib.hid hnl2
                unfold maxLen at hL2
                rw [← hnl2] at hL1 hLl HDU
                simp only [← hnl2]
                clear hnl2 hOL hLv hNl
                go_wp2_with fail
                obtain ⟨wD, hwD⟩ : ∃ x, x = wr := ⟨_, rfl⟩
                go_loopw [6, 68] (N4R wB L ⟨⟨ya, yn, yc, yb, ym, yd⟩, yr⟩ N (.slice aL nl cL)) (fun _ i _ => nl - (intOf i).toNat)
                case atStart => exact ⟨0, Nat.zero_le _, rfl, by simpa using HDU.out⟩
                case round =>
                  obtain ⟨k, hk, rfl, hDN⟩ := hrel
                  have hkn : k ≤ nl := by rw [HNL.out]; exact hk
                  have hk0 : (0 : Int) ≤ (k : Int) := by omega
                  by_cases hlt : k < nl
                  · have hlt' : k < L.length := by rw [← HNL.out]; exact hlt
                    obtain ⟨gL, oL, rfl, cc⟩ := hDN.m.rd.at k hlt'
                    have d0 := cc 0 _ rfl
                    have d1 := cc 1 _ rfl
                    simp only [Enc.sz, Nat.add_zero] at d0 d1
                    clear cc
                    have hk1 : (k : Int) < (nl : Int) := by omega
                    have HML := Lib.hid (map_take (mkH ⟨⟨ya, yn, yc, yb, ym, yd⟩, yr⟩) hlt')
                    have hml : (N ++ (L.take k).map (mkH ⟨⟨ya, yn, yc, yb, ym, yd⟩, yr⟩)).length ≤ 400 * (400 * 800) + 400 * 800 := by rw [List.length_append, List.length_map, List.length_take]; omega
                    generalize L[k] = q at *
                    obtain ⟨qa, qb⟩ := q
                    simp only at d0 d1
                    have e0 := hDN.l.2.keeps K0.out
                    have e1 := hDN.l.2.keeps K1.out
                    have HDN := Lib.hid hDN
                    have HMM := Lib.hid hml
                    have HBL := Lib.hid hDN.l.lt
                    have HBK := Lib.hid (fun kk hh => (hDN.l.blk kk hh).1)
                    have hgw : wB.heap.size ≤ wr.heap.size := hDN.l.2.2.2
                    clear hDN hml
                    generalize hMe : N ++ (L.take k).map (mkH ⟨⟨ya, yn, yc, yb, ym, yd⟩, yr⟩) = M at *
                    have HMQ := Lib.hid hMe
                    clear hMe
                    have C0 := al0 wr (.int .i64 qa) (.int .i64 qb) 40
                    have C1 := al1 wr (.int .i64 qa) (.int .i64 qb) 40
                    have EX : Ext wr (wr.alloc (.cells #[.int .i64 qa, .int .i64 qb] 40)) := (Ext.refl wr).alloc _ _
                    have E0 := EX.keeps e0
                    have E1 := EX.keeps e1
                    go_wp2_with fail
                    generalize wr.alloc (.cells #[.int .i64 qa, .int .i64 qb] 40) = w0 at *
                    have K2 := Lib.hid E0
                    have K3 := Lib.hid E1
                    have K4 := Lib.hid C0
                    have K5 := Lib.hid C1
                    have hbx : wr.heap.size < w0.heap.size := World.block_lt_of_cell? _ _ C0
                    have EA := Lib.hid (((Ext.refl w0).alloc #[.slice ya yn yc, .int .i64 qa, .int .i64 qb, .slice yb ym yd] 42).drew)
                    have HD0 := Lib.hid (HDN.out.ext (EX.trans ((Ext.refl w0).alloc #[.slice ya yn yc, .int .i64 qa, .int .i64 qb, .slice yb ym yd] 42).drew))
                    clear C0 C1 E0 E1 d0 d1 e0 e1 EX
                    go_region_held3 (fun w' => w'.cell? ⟨gq, oq, none⟩ = some (.slice ya yn yc) ∧ w'.cell? ⟨gq, oq + 1, none⟩ = some (.slice yb ym yd) ∧ w'.cell? ⟨wr.heap.size, 0, none⟩ = some (.int .i64 qa) ∧ w'.cell? ⟨wr.heap.size, 1, none⟩ = some (.int .i64 qb)) (first | exact ⟨K2.out, K3.out, K4.out, K5.out⟩ | exact ⟨EA.out.keeps K2.out, EA.out.keeps K3.out, EA.out.keeps K4.out, EA.out.keeps K5.out⟩ | exact ⟨r2, r3, r0, r1⟩ | go_keep)
                      (first | (refine step_appGL tT rfl _ _ rfl wB _ M rfl ?a1 _ [(⟨⟨ya, yn, yc, yb, ym, yd⟩, yr, qa, qb⟩ : TP)] rfl ?a2 ?a3 ?_; (case a1 => exact HD0.out.l); (case a2 => exact rd_litG w0 [(⟨⟨ya, yn, yc, yb, ym, yd⟩, yr, qa, qb⟩ : TP)] #[.slice ya yn yc, .int .i64 qa, .int .i64 qb, .slice yb ym yd] 42 _ 1 rfl rfl (by simp) rfl); (case a3 => have := HMM.out; simp; omega); intro v5 w7 hO5 hg5 hl5; have r0 := grow_cell hg5 (EA.out.keeps K4.out) (fun kk hh => by have := HBL.out kk hh; omega); have r1 := grow_cell hg5 (EA.out.keeps K5.out) (fun kk hh => by have := HBL.out kk hh; omega); have r2 := grow_cell hg5 (EA.out.keeps K2.out) (fun kk hh => by have := HBK.out kk hh; have := HG2.out; omega); have r3 := grow_cell hg5 (EA.out.keeps K3.out) (fun kk hh => by have := HBK.out kk hh; have := HG2.out; omega); have HD5 := Lib.hid (HD0.out.left hO5 hg5 hl5); clear hO5 hg5 hl5))
                    all_goals
                      go_wp2_with fail
                      go_roundw
                      case rel => exact ⟨k + 1, hlt', by go_num, by rw [HML.out, ← List.append_assoc, HMQ.out]; exact HD5.out⟩
                      case measure => first | (simp [intOf]; done) | (simp [intOf]; omega)
                  · have hall : L.take k = L := by rw [List.take_of_length_le]; rw [← HNL.out]; omega
                    rw [hall] at hDN
                    have HDN := Lib.hid hDN
                    clear hDN hall
                    go_wp2_with fail
                    go_roundw
                    case rel => exact ⟨0 + 1, N ++ L.map (mkH ⟨⟨ya, yn, yc, yb, ym, yd⟩, yr⟩), hil', by go_num, HDN.out.l, HSTEP, Lib.hid (fun p hp => by
                      rcases List.mem_append.1 hp with hp | hp
                      · exact HRN.out p hp
                      · obtain ⟨q, _, rfl⟩ := List.mem_map.1 hp
                        exact HIY.out)⟩
                    case measure => first | (simp [intOf]; done) | (simp [intOf]; omega)
          | succ i =>
            have hip : i < qs.length := by omega
            obtain ⟨gq', oq', e', j0, j1⟩ := rd_P HQR.out i hip
            simp only [Option.some.injEq, Addr.mk.injEq, and_true] at e'
            obtain ⟨rfl, rfl⟩ := e'
            have HIZ := Lib.hid (show RdRow wB qs[i] from HQI.out qs[i] (List.getElem_mem _))
            have HIR := Lib.hid (show RdRow wB qs[i + 1] from HQI.out qs[i + 1] (List.getElem_mem _))
            have hsm := fun (he : qs[i].r = qs[i + 1].r) => HNI.out.same hil' he
            have hnw := fun (he : qs[i].r ≠ qs[i + 1].r) => (show i + 1 = 0 ∨ ∃ h : i + 1 - 1 < qs.length, qs[i + 1 - 1].r ≠ qs[i + 1].r from Or.inr ⟨hip, he⟩)
            have hii0 : (0 : Int) ≤ (i : Int) := by omega
            have hii1 : (i : Int) < (n : Int) := by omega
            have hii2 : (i : Int) + 1 < (n : Int) := by omega
            have hii3 : (0 : Int) < (i : Int) + 1 := by omega
            have hii4 : (0 : Int) ≤ (i : Int) + 1 := by omega
            have hii6 : IntKind.i64.wrap (i : Int) = (i : Int) := by simp only [IntKind.wrap, IntKind.bits, IntKind.signed]; simp; omega
            have hii5 : IntKind.i64.wrap ((i : Int) + 1 - 1) = (i : Int) := by rw [show (i : Int) + 1 - 1 = (i : Int) by omega]; simp only [IntKind.wrap, IntKind.bits, IntKind.signed]; simp; omega
            have e0 := hON.2.keeps k0
            have e1 := hON.2.keeps k1
            have f0 := hON.2.keeps j0
            have f1 := hON.2.keeps j1
            have hcv := fun w2 (hg : Ext wr w2) => sameRowE wr qs[i] qs[i + 1] w2 (HIZ.out.ext hON.2) (HIR.out.ext hON.2) hg
            obtain ⟨y, hy⟩ : ∃ y, qs[i + 1] = y := ⟨_, rfl⟩
            obtain ⟨z, hz⟩ : ∃ z, qs[i] = z := ⟨_, rfl⟩
            rw [hy] at k0 k1 HIY e0 e1 hcv hsm
            rw [hz] at f0 f1 hcv hsm
            have HQX := Lib.hid hy
            have HQZ := Lib.hid hz
            clear hy hz j0 j1 HIZ HIR
            have hyes : sameB z.r y.r = true → z.r = y.r := by unfold sameB; simp
            have hno : sameB z.r y.r = false → z.r ≠ y.r := by unfold sameB; simp
            have HNW := Lib.hid (fun (he : z.r ≠ y.r) => hnw (by rw [HQX.out, HQZ.out]; exact he))
            clear hnw
            obtain ⟨⟨ya, yn, yc, yb, ym, yd⟩, yr⟩ := y
            obtain ⟨⟨za, zn, zc, zb, zm, zd⟩, zr⟩ := z
            simp only [Hd.x, Hd.y] at k0 k1 e0 e1 f0 f1 hcv hyes hno
            have K0 := Lib.hid k0
            have K1 := Lib.hid k1
            have HON := Lib.hid hON
            have E0 := Lib.hid e0
            have E1 := Lib.hid e1
            have F0 := Lib.hid f0
            have F1 := Lib.hid f1
            clear k0 k1 e0 e1 f0 f1 hON
            cases hb : sameB zr yr with
            | true =>
              rw [hb] at hcv
              have HV := Lib.hid hcv
              have HSM := Lib.hid (hsm (hyes hb))
              clear hcv hb hyes hno hsm
              rw [show ((i + 1 : Nat) : Int) = (i : Int) + 1 by omega]
              go_wp2_with fail
              go_region_held3 (fun w' => w'.cell? ⟨gq, oq + i * 2, none⟩ = some (.slice za zn zc) ∧ w'.cell? ⟨gq, oq + i * 2 + 1, none⟩ = some (.slice zb zm zd) ∧ w'.cell? ⟨gq, oq + (i + 1) * 2, none⟩ = some (.slice ya yn yc) ∧ w'.cell? ⟨gq, oq + (i + 1) * 2 + 1, none⟩ = some (.slice yb ym yd)) (first | exact ⟨F0.out, F1.out, E0.out, E1.out⟩ | exact S4.out | go_keep)
                (first | (go_at_call 16; refine (HV.out _ ?_).mono ?_; (first | exact Ext.refl _ | exact (Ext.refl _).drew); rintro e w4 ⟨rfl, q0, qG⟩; have S4 := Lib.hid (And.intro (qG.keeps F0.out) (And.intro (qG.keeps F1.out) (And.intro (qG.keeps E0.out) (qG.keeps E1.out)))); clear q0))
              all_goals
                clear hii5 hii6
                go_wp2_with fail
                try simp only [Exit.inBlock, Exit.then]
                go_roundw
                case rel => exact ⟨i + 1 + 1, N, hil', by go_num, HON.out.ext qG, HSM, HRN⟩
                case measure => first | (simp [intOf]; done) | (simp [intOf]; omega)
            | false =>
              rw [hb] at hcv
              have HV := Lib.hid hcv
              have hnew := HNW.out (hno hb)
              have HNEW := Lib.hid hnew
              clear hcv hb hyes hno hsm hnew HNW
              rw [show ((i + 1 : Nat) : Int) = (i : Int) + 1 by omega]
              go_wp2_with fail
              go_region_held3 (fun w' => w'.cell? ⟨gq, oq + i * 2, none⟩ = some (.slice za zn zc) ∧ w'.cell? ⟨gq, oq + i * 2 + 1, none⟩ = some (.slice zb zm zd) ∧ w'.cell? ⟨gq, oq + (i + 1) * 2, none⟩ = some (.slice ya yn yc) ∧ w'.cell? ⟨gq, oq + (i + 1) * 2 + 1, none⟩ = some (.slice yb ym yd)) (first | exact ⟨F0.out, F1.out, E0.out, E1.out⟩ | exact S4.out | go_keep)
                (first | (go_at_call 16; refine (HV.out _ ?_).mono ?_; (first | exact Ext.refl _ | exact (Ext.refl _).drew); rintro e w4 ⟨rfl, q0, qG⟩; have S4 := Lib.hid (And.intro (qG.keeps F0.out) (And.intro (qG.keeps F1.out) (And.intro (qG.keeps E0.out) (qG.keeps E1.out)))); have HWQ := Lib.hid (HON.out.ext qG); clear q0))
              all_goals
                clear qG HON hii5 hii6
                rename_i wr0
                generalize w4 = wr at *
                go_wp2_with fail
                obtain ⟨wC, hwC⟩ : ∃ x, x = wr := ⟨_, rfl⟩
                rw [← hwC] at HWQ ⊢
                clear hwC
                go_loopw [8, 49] (N3R wB ps yr u6 N) (fun _ i _ => n - (intOf i).toNat)
                case atStart => exact ⟨0, Nat.zero_le _, rfl, ⟨HWQ.out, OwnG.nil _ _ _ HWQ.out.2, fun g hg e => by cases e⟩⟩
                case round =>
                  obtain ⟨j, hj, rfl, hD⟩ := hrel
                  have hjn : j ≤ n := by rw [HN.out]; exact hj
                  have hj0 : (0 : Int) ≤ (j : Int) := by omega
                  by_cases hjl : j < n
                  · have hjl' : j < ps.length := by rw [← HN.out]; exact hjl
                    have hj1 : (j : Int) < (n : Int) := by omega
                    obtain ⟨g, o, rfl, c0', c1', c2', c3'⟩ := rd_T H.out j hjl'
                    have hEE := HEW.out.trans hD.l.2
                    have c0 := hEE.keeps c0'
                    have c1 := hEE.keeps c1'
                    have c2 := hEE.keeps c2'
                    have c3 := hEE.keeps c3'
                    clear c0' c1' c2' c3'
                    have e0 := hD.l.2.keeps K0.out
                    have e1 := hD.l.2.keeps K1.out
                    have HFY := Lib.hid (filt_yes (f := sameR yr) hjl')
                    have HFZ := Lib.hid (filt_no (f := sameR yr) hjl')
                    have hgl : ((ps.take j).filter (sameR yr)).length ≤ 400 := by have := filt_len (sameR yr) ps j; have := HN.out; omega
                    have hix := (HI.out ps[j] (List.getElem_mem _)).ext hEE
                    have hro := fun w2 => row_ref ps[j] w2
                    have hcv := fun w0 w2 (hg : Ext wr w0) (hg2 : Ext w0 w2) => sameRowE w0 ps[j].row ⟨⟨ya, yn, yc, yb, ym, yd⟩, yr⟩ w2 (hix.ext hg).row ((HIY.out.ext hD.l.2).ext hg) hg2
                    generalize ps[j] = x at *
                    have hsr : sameR yr x = sameB x.r yr := rfl
                    obtain ⟨⟨xa, xn, xc, xb, xm, xd⟩, xr, pa, pb⟩ := x
                    simp only [Hd.x, Hd.y, tv] at c0 c1 c2 c3 hro hcv hsr
                    clear hix hEE
                    obtain ⟨b0, b1, b2, b3⟩ := box4 wr (.slice xa xn xc) (.int .i64 pa) (.int .i64 pb) (.slice xb xm xd) 42
                    have hE0 : Ext wr (wr.alloc (.cells #[.slice xa xn xc, .int .i64 pa, .int .i64 pb, .slice xb xm xd] 42)) := (Ext.refl wr).alloc _ _
                    have l0 := hE0.keeps e0
                    have l1 := hE0.keeps e1
                    obtain ⟨bx, hbx⟩ : ∃ z, z = wr.heap.size := ⟨_, rfl⟩
                    have HBX := Lib.hid hbx
                    rw [← hbx] at b0 b1 b2 b3
                    have HD := Lib.hid hD
                    have HGL := Lib.hid hgl
                    have HCV := Lib.hid (hcv _ · hE0)
                    have HRO := Lib.hid hro
                    clear hD hgl hro hcv
                    have hg2 : gq < wr.heap.size := World.block_lt_of_cell? _ _ e0
                    generalize (ps.take j).filter (sameR yr) = G at *
                    cases hb : sameB xr yr with
                    | true =>
                      have HX := Lib.hid (HFY.out (by rw [hsr, hb]))
                      have HV := Lib.hid HCV.out
                      rw [hb] at HV
                      clear hb hsr HFY HFZ
                      go_wp2_with fail
                      rw [← hbx]
                      generalize wr.alloc (.cells #[.slice xa xn xc, .int .i64 pa, .int .i64 pb, .slice xb xm xd] 42) = w0 at *
                      have B0 := Lib.hid b0
                      have B1 := Lib.hid b1
                      have B2 := Lib.hid b2
                      have B3 := Lib.hid b3
                      have L0 := Lib.hid l0
                      have L1 := Lib.hid l1
                      have hz : bx < w0.heap.size := World.block_lt_of_cell? _ _ b0
                      have hgz : gq < w0.heap.size := World.block_lt_of_cell? _ _ l0
                      clear b0 b1 b2 b3 l0 l1 e0 e1 c0 c1 c2 c3 hbx HCV
                      go_region_held3 (fun w' => w'.cell? ⟨bx, 0, none⟩ = some (.slice xa xn xc) ∧ w'.cell? ⟨bx, 1, none⟩ = some (.int .i64 pa) ∧ w'.cell? ⟨bx, 2, none⟩ = some (.int .i64 pb) ∧ w'.cell? ⟨bx, 3, none⟩ = some (.slice xb xm xd) ∧ w'.cell? ⟨gq, oq + (i + 1) * 2, none⟩ = some (.slice ya yn yc) ∧ w'.cell? ⟨gq, oq + (i + 1) * 2 + 1, none⟩ = some (.slice yb ym yd)) (first | exact ⟨B0.out, B1.out, B2.out, B3.out, L0.out, L1.out⟩ | exact S3.out | exact S4.out | go_keep)
                        (first | (go_at_call 17; refine (HRO.out _).mono ?_; rintro e w3 ⟨rfl, hg3⟩; have e3 : Ext w0 w3 := ⟨hg3.ext.1, hg3.ext.2.1, hg3.ext.2.2⟩; have S3 := Lib.hid (And.intro (e3.keeps B0.out) (And.intro (e3.keeps B1.out) (And.intro (e3.keeps B2.out) (And.intro (e3.keeps B3.out) (And.intro (e3.keeps L0.out) (e3.keeps L1.out)))))); clear hg3) | (go_at_call 16; refine (HV.out _ ?_).mono ?_; (first | exact e3 | exact e3.drew); rintro e w4 ⟨rfl, q0, qG⟩; have S4 := Lib.hid (And.intro (qG.keeps B0.out) (And.intro (qG.keeps B1.out) (And.intro (qG.keeps B2.out) (And.intro (qG.keeps B3.out) (And.intro (qG.keeps L0.out) (qG.keeps L1.out)))))); clear q0))
                      all_goals
                        obtain ⟨s0, s1, s2, s3, _⟩ := S4.out
                        have HEA := Lib.hid ((hE0.trans qG).trans ((Ext.refl w4).alloc #[.slice xa xn xc, .int .i64 pa, .int .i64 pb, .slice xb xm xd] 42))
                        go_wp2_with (at_builtin; refine appGL tT rfl _ _ rfl wB _ G rfl ?a1 _ [(⟨⟨xa, xn, xc, xb, xm, xd⟩, xr, pa, pb⟩ : TP)] rfl ?a2 ?a3 ?_; (case a1 => exact (HD.out.ext HEA.out).m); (case a2 => exact rd_litG _ [(⟨⟨xa, xn, xc, xb, xm, xd⟩, xr, pa, pb⟩ : TP)] #[.slice xa xn xc, .int .i64 pa, .int .i64 pb, .slice xb xm xd] 42 _ 1 rfl rfl (by simp) rfl); (case a3 => have := HGL.out; simp; omega); intro v5 w5 hO5 hg5 hl5; have HD5 := Lib.hid ((HD.out.ext HEA.out).right hO5 hg5 hl5); clear hO5 hg5 hl5)
                        go_roundw
                        case rel => exact ⟨j + 1, hjl', by go_num, by rw [HX.out]; exact HD5.out⟩
                        case measure => first | (simp [intOf]; done) | (simp [intOf]; omega)
                    | false =>
                      have HX := Lib.hid (HFZ.out (by rw [hsr, hb]))
                      have HV := Lib.hid HCV.out
                      rw [hb] at HV
                      clear hb hsr HFY HFZ
                      go_wp2_with fail
                      rw [← hbx]
                      generalize wr.alloc (.cells #[.slice xa xn xc, .int .i64 pa, .int .i64 pb, .slice xb xm xd] 42) = w0 at *
                      have B0 := Lib.hid b0
                      have B1 := Lib.hid b1
                      have B2 := Lib.hid b2
                      have B3 := Lib.hid b3
                      have L0 := Lib.hid l0
                      have L1 := Lib.hid l1
                      have hz : bx < w0.heap.size := World.block_lt_of_cell? _ _ b0
                      have hgz : gq < w0.heap.size := World.block_lt_of_cell? _ _ l0
                      clear b0 b1 b2 b3 l0 l1 e0 e1 c0 c1 c2 c3 hbx HCV
                      go_region_held3 (fun w' => w'.cell? ⟨bx, 0, none⟩ = some (.slice xa xn xc) ∧ w'.cell? ⟨bx, 1, none⟩ = some (.int .i64 pa) ∧ w'.cell? ⟨bx, 2, none⟩ = some (.int .i64 pb) ∧ w'.cell? ⟨bx, 3, none⟩ = some (.slice xb xm xd) ∧ w'.cell? ⟨gq, oq + (i + 1) * 2, none⟩ = some (.slice ya yn yc) ∧ w'.cell? ⟨gq, oq + (i + 1) * 2 + 1, none⟩ = some (.slice yb ym yd)) (first | exact ⟨B0.out, B1.out, B2.out, B3.out, L0.out, L1.out⟩ | exact S3.out | exact S4.out | go_keep)
                        (first | (go_at_call 17; refine (HRO.out _).mono ?_; rintro e w3 ⟨rfl, hg3⟩; have e3 : Ext w0 w3 := ⟨hg3.ext.1, hg3.ext.2.1, hg3.ext.2.2⟩; have S3 := Lib.hid (And.intro (e3.keeps B0.out) (And.intro (e3.keeps B1.out) (And.intro (e3.keeps B2.out) (And.intro (e3.keeps B3.out) (And.intro (e3.keeps L0.out) (e3.keeps L1.out)))))); clear hg3) | (go_at_call 16; refine (HV.out _ ?_).mono ?_; (first | exact e3 | exact e3.drew); rintro e w4 ⟨rfl, q0, qG⟩; have S4 := Lib.hid (And.intro (qG.keeps B0.out) (And.intro (qG.keeps B1.out) (And.intro (qG.keeps B2.out) (And.intro (qG.keeps B3.out) (And.intro (qG.keeps L0.out) (qG.keeps L1.out)))))); clear q0))
                      all_goals
                        go_wp2_with fail
                        go_roundw
                        case rel => exact ⟨j + 1, hjl', by go_num, by rw [HX.out]; exact HD.out.ext (hE0.trans qG)⟩
                        case measure => first | (simp [intOf]; done) | (simp [intOf]; omega)
                  · have hall : ps.take j = ps := by rw [List.take_of_length_le]; rw [← HN.out]; omega
                    rw [hall] at hD
                    have HD := Lib.hid hD
                    have hdj : decide ((j : Int) < (n : Int)) = false := by simp; omega
                    have HGL := Lib.hid (show (ps.filter (sameR yr)).length ≤ 400 by have := List.length_filter_le (sameR yr) ps; have := HN.out; omega)
                    clear hD hall
                    go_wp2_with fail
                    refine (levels_ref (ps.filter (sameR yr)) u8 wr HD.out.m.rd HGL.out).mono ?_; rintro e w5 ⟨v6, L, rfl, hOL, hLv, hLl⟩
                    have HSTEP := Lib.hid (HNI.out.step HQS.out hil' HQX.out HNEW.out hLv hLl)
                    have HDU := Lib.hid (show Duo tT.e tPe.e wB w5 u6 v6 N L from ⟨HD.out.l.ext hOL.2, hOL.base HD.out.l.2, fun kk hh e => by
                      have h1 := HD.out.l.lt kk hh
                      have h2 := (hOL.blk kk e).1
                      omega⟩)
                    have hNl := HNI.out.len
                    have hNl2 : N.length ≤ 400 * (400 * 800) := Nat.le_trans hNl (Nat.mul_le_mul_right _ (by omega))
                    obtain ⟨aL, cL, rfl, hL1, hL2⟩ := hOL.rd.shape
                    obtain ⟨nl, hnl2⟩ : ∃ z, z = L.length := ⟨_, rfl⟩
                    have HNL := Lib.hid hnl2
                    unfold maxLen at hL2
                    rw [← hnl2] at hL1 hLl HDU
                    simp only [← hnl2]
                    clear hnl2 hOL hLv hNl
                    go_wp2_with fail
                    obtain ⟨wD, hwD⟩ : ∃ x, x = wr := ⟨_, rfl⟩
                    go_loopw [6, 68] (N4R wB L ⟨⟨ya, yn, yc, yb, ym, yd⟩, yr⟩ N (.slice aL nl cL)) (fun _ i _ => nl - (intOf i).toNat)
                    case atStart => exact ⟨0, Nat.zero_le _, rfl, by simpa using HDU.out⟩
                    case round =>
                      obtain ⟨k, hk, rfl, hDN⟩ := hrel
                      have hkn : k ≤ nl := by rw [HNL.out]; exact hk
                      have hk0 : (0 : Int) ≤ (k : Int) := by omega
                      by_cases hlt : k < nl
                      · have hlt' : k < L.length := by rw [← HNL.out]; exact hlt
                        obtain ⟨gL, oL, rfl, cc⟩ := hDN.m.rd.at k hlt'
                        have d0 := cc 0 _ rfl
                        have d1 := cc 1 _ rfl
                        simp only [Enc.sz, Nat.add_zero] at d0 d1
                        clear cc
                        have hk1 : (k : Int) < (nl : Int) := by omega
                        have HML := Lib.hid (map_take (mkH ⟨⟨ya, yn, yc, yb, ym, yd⟩, yr⟩) hlt')
                        have hml : (N ++ (L.take k).map (mkH ⟨⟨ya, yn, yc, yb, ym, yd⟩, yr⟩)).length ≤ 400 * (400 * 800) + 400 * 800 := by rw [List.length_append, List.length_map, List.length_take]; omega
                        generalize L[k] = q at *
                        obtain ⟨qa, qb⟩ := q
                        simp only at d0 d1
                        have e0 := hDN.l.2.keeps K0.out
                        have e1 := hDN.l.2.keeps K1.out
                        have HDN := Lib.hid hDN
                        have HMM := Lib.hid hml
                        have HBL := Lib.hid hDN.l.lt
                        have HBK := Lib.hid (fun kk hh => (hDN.l.blk kk hh).1)
                        have hgw : wB.heap.size ≤ wr.heap.size := hDN.l.2.2.2
                        clear hDN hml
                        generalize hMe : N ++ (L.take k).map (mkH ⟨⟨ya, yn, yc, yb, ym, yd⟩, yr⟩) = M at *
                        have HMQ := Lib.hid hMe
                        clear hMe
                        have C0 := al0 wr (.int .i64 qa) (.int .i64 qb) 40
                        have C1 := al1 wr (.int .i64 qa) (.int .i64 qb) 40
                        have EX : Ext wr (wr.alloc (.cells #[.int .i64 qa, .int .i64 qb] 40)) := (Ext.refl wr).alloc _ _
                        have E0 := EX.keeps e0
                        have E1 := EX.keeps e1
                        go_wp2_with fail
                        generalize wr.alloc (.cells #[.int .i64 qa, .int .i64 qb] 40) = w0 at *
                        have K2 := Lib.hid E0
                        have K3 := Lib.hid E1
                        have K4 := Lib.hid C0
                        have K5 := Lib.hid C1
                        have hbx : wr.heap.size < w0.heap.size := World.block_lt_of_cell? _ _ C0
                        have EA := Lib.hid (((Ext.refl w0).alloc #[.slice ya yn yc, .int .i64 qa, .int .i64 qb, .slice yb ym yd] 42).drew)
                        have HD0 := Lib.hid (HDN.out.ext (EX.trans ((Ext.refl w0).alloc #[.slice ya yn yc, .int .i64 qa, .int .i64 qb, .slice yb ym yd] 42).drew))
                        clear C0 C1 E0 E1 d0 d1 e0 e1 EX
                        go_region_held3 (fun w' => w'.cell? ⟨gq, oq + (i + 1) * 2, none⟩ = some (.slice ya yn yc) ∧ w'.cell? ⟨gq, oq + (i + 1) * 2 + 1, none⟩ = some (.slice yb ym yd) ∧ w'.cell? ⟨wr.heap.size, 0, none⟩ = some (.int .i64 qa) ∧ w'.cell? ⟨wr.heap.size, 1, none⟩ = some (.int .i64 qb)) (first | exact ⟨K2.out, K3.out, K4.out, K5.out⟩ | exact ⟨EA.out.keeps K2.out, EA.out.keeps K3.out, EA.out.keeps K4.out, EA.out.keeps K5.out⟩ | exact ⟨r2, r3, r0, r1⟩ | go_keep)
                          (first | (refine step_appGL tT rfl _ _ rfl wB _ M rfl ?a1 _ [(⟨⟨ya, yn, yc, yb, ym, yd⟩, yr, qa, qb⟩ : TP)] rfl ?a2 ?a3 ?_; (case a1 => exact HD0.out.l); (case a2 => exact rd_litG w0 [(⟨⟨ya, yn, yc, yb, ym, yd⟩, yr, qa, qb⟩ : TP)] #[.slice ya yn yc, .int .i64 qa, .int .i64 qb, .slice yb ym yd] 42 _ 1 rfl rfl (by simp) rfl); (case a3 => have := HMM.out; simp; omega); intro v5 w7 hO5 hg5 hl5; have r0 := grow_cell hg5 (EA.out.keeps K4.out) (fun kk hh => by have := HBL.out kk hh; omega); have r1 := grow_cell hg5 (EA.out.keeps K5.out) (fun kk hh => by have := HBL.out kk hh; omega); have r2 := grow_cell hg5 (EA.out.keeps K2.out) (fun kk hh => by have := HBK.out kk hh; have := HG2.out; omega); have r3 := grow_cell hg5 (EA.out.keeps K3.out) (fun kk hh => by have := HBK.out kk hh; have := HG2.out; omega); have HD5 := Lib.hid (HD0.out.left hO5 hg5 hl5); clear hO5 hg5 hl5))
                        all_goals
                          go_wp2_with fail
                          go_roundw
                          case rel => exact ⟨k + 1, hlt', by go_num, by rw [HML.out, ← List.append_assoc, HMQ.out]; exact HD5.out⟩
                          case measure => first | (simp [intOf]; done) | (simp [intOf]; omega)
                      · have hall : L.take k = L := by rw [List.take_of_length_le]; rw [← HNL.out]; omega
                        rw [hall] at hDN
                        have HDN := Lib.hid hDN
                        clear hDN hall
                        go_wp2_with fail
                        go_roundw
                        case rel => exact ⟨(i + 1) + 1, N ++ L.map (mkH ⟨⟨ya, yn, yc, yb, ym, yd⟩, yr⟩), hil', by go_num, HDN.out.l, HSTEP, Lib.hid (fun p hp => by
                          rcases List.mem_append.1 hp with hp | hp
                          · exact HRN.out p hp
                          · obtain ⟨q, _, rfl⟩ := List.mem_map.1 hp
                            exact HIY.out)⟩
                        case measure => first | (simp [intOf]; done) | (simp [intOf]; omega)
        · have hie : i = n := by omega
          have hdi : decide ((i : Int) < (n : Int)) = false := by simp; omega
          have HFI := Lib.hid (HNI.out.fin (by rw [HQL.out, hie]; exact Nat.le_refl _) HQP.out)
          have HNL := Lib.hid (show N.length ≤ 400 * (400 * 800) from Nat.le_trans HNI.out.len (Nat.mul_le_mul_right _ (by omega)))
          have HON := Lib.hid hON
          clear hON
          go_wp2_with fail
          go_ret
          exact ⟨_, N, rfl, HON.out.rd, fun p hp => (HRN.out p hp).ext HON.out.2, HFI.out, HEW.out.trans HON.out.2⟩
end Go.Proofs.YtnckdopphimgoaaGreat
