/- The law Slices. -/
import Derived.Test.YtcankdikbnllkaaGreatZx1
import Derived.Test.YtcankdikbnllkaaGreatZz46
import Derived.Test.YtcankdikbnllkaaGreatZz47
namespace Go.Proofs.YtcankdikbnllkaaGreat
open Go.ChangeShapes Go.WideShapes Go.ChangeAt Go.RowKit

theorem sameRows_yes (ps qs : List P) (va vb : Value) (w : World) (hra : RdG w va ps) (hrb : RdG w vb qs) (hia : RdAll w ps) (hib : RdAll w qs) (he : rows ps = rows qs) :
    Calls Tryz.prog 16 #[va, vb] w fun e w' => e = .returned (.bool true) ∧ Ext w w' := by
  have := sameRows_ref ps qs va vb w hra hrb hia hib
  rw [show srB (rows ps) (rows qs) = true by unfold srB; rw [decide_eq_true_iff]; exact he] at this
  exact this
theorem sameT_yes (ps qs : List TP) (va vb : Value) (w : World) (ha : RdG w va ps) (hb : RdG w vb qs) (ia : RdTs w ps) (ib : RdTs w qs) (he : tus ps = tus qs) :
    Calls Tryz.prog 21 #[va, vb] w fun e w' => e = .returned (.bool true) ∧ Ext w w' := by
  have := sameT_ref ps qs va vb w ha hb ia ib
  rw [show tuB (tus ps) (tus qs) = true by unfold tuB; rw [decide_eq_true_iff]; exact he] at this
  exact this
theorem sl_sm {ps : List TP} {t : Int} {qs : List P} (h : SmT ps) (e : rows qs = sl (tus ps) t) : ∀ p ∈ qs, p.r.v.length ≤ 1000000 ∧ p.r.t.length ≤ 1000000 := by
  intro p hp
  have h1 : p.r ∈ rows qs := List.mem_map.2 ⟨p, hp, rfl⟩
  rw [e] at h1
  unfold sl at h1
  have h2 := (sortR_perm _).mem_iff.1 h1
  obtain ⟨x, hx, hr⟩ := List.mem_map.1 h2
  obtain ⟨q, hq, rfl⟩ := List.mem_map.1 (List.mem_filter.1 hx).1
  rw [← hr]
  exact h q hq
theorem sl_len' {ps : List TP} {t : Int} {qs : List P} (e : rows qs = sl (tus ps) t) : qs.length ≤ ps.length := by
  rw [← rows_len, e, ← tus_len ps]
  exact sl_len _ _
def TsR (W : World) (n : Nat) (i : Value) (wr : World) : Prop := ∃ k : Nat, k ≤ n ∧ i = .int .i64 k ∧ Ext W wr
set_option maxHeartbeats 16000000 in
set_option maxRecDepth 100000 in
theorem law_TupleSlices (ps : List TP) (t a b : Int) (v : Value) (w : World) (h : RdG w v ps) (hI : RdTs w ps) : Calls Tryz.prog 3 #[v, .int .i64 t, .agg #[.int .i64 a, .int .i64 b]] w fun e w' => e = .returned (.bool true) ∧ Ext w w' := by
  have H := Lib.hid h
  have HI := Lib.hid hI
  clear h hI
  go_enter Tryz.func3, Tryz.ntmps3
  go_wp2_with fail
  have z0 := al0 w (.int .i64 a) (.int .i64 b) 24
  have z1 := al1 w (.int .i64 a) (.int .i64 b) 24
  have hX : Ext w (w.alloc (.cells #[.int .i64 a, .int .i64 b] 24)) := (Ext.refl w).alloc _ _
  generalize w.alloc (.cells #[.int .i64 a, .int .i64 b] 24) = w0 at *
  have Z0 := Lib.hid z0
  have Z1 := Lib.hid z1
  have HX := Lib.hid hX
  clear z0 z1 hX
  refine (fewT_law ps 25 v w0 (H.out.ext HX.out) (HI.out.ext HX.out) (by omega) (by omega)).mono ?_; rintro e w1 ⟨b', rfl, hb, rfl⟩
  cases b' with
  | false =>
    clear hb
    go_wp2_with fail
    refine (awake_law _).mono ?_; rintro e w2 ⟨rfl, hE⟩
    go_wp2_with fail
    go_ret
    exact ⟨rfl, HX.out.trans hE⟩
  | true =>
    have HB := Lib.hid (hb rfl)
    have HPL := Lib.hid (show ps.length ≤ 25 by have := (hb rfl).1; omega)
    clear hb
    go_wp2_with fail
    refine (tslice_prg ps t v w0 (H.out.ext HX.out) (HI.out.ext HX.out) (by have := HPL.out; omega) (few_sm HB.out)).mono ?_
    rintro e w2 ⟨v2, rs, rfl, r1, r2, r3, r4⟩
    have HR1 := Lib.hid r1
    have HR2 := Lib.hid r2
    have HR3 := Lib.hid r3
    have HE2 := Lib.hid r4
    have HEW := Lib.hid (HX.out.trans r4)
    clear r1 r2 r3 r4
    obtain ⟨ad, cap, rfl, h1, h2⟩ := H.out.shape
    unfold maxLen at h2
    obtain ⟨n, hn⟩ : ∃ n, n = ps.length := ⟨_, rfl⟩
    have HN := Lib.hid hn
    rw [← hn] at H h1 ⊢
    clear hn
    go_wp2_with fail
    go_loopw [19] (TsR w2 n) (fun i _ => n - (intOf i).toNat)
    case atStart => exact ⟨0, Nat.zero_le _, rfl, Ext.refl _⟩
    case round =>
      obtain ⟨k, hkn, rfl, hE⟩ := hrel
      have hk0 : (0 : Int) ≤ (k : Int) := by omega
      by_cases hlt : k < n
      · have hlt' : k < ps.length := by rw [← HN.out]; exact hlt
        have hk1 : (k : Int) < (n : Int) := by omega
        obtain ⟨g, o, rfl, c0', c1', c2', c3'⟩ := rd_T H.out k hlt'
        have hEE := HEW.out.trans hE
        have c0 := hEE.keeps c0'
        have c1 := hEE.keeps c1'
        have c2 := hEE.keeps c2'
        have c3 := hEE.keeps c3'
        have hix := (HI.out ps[k] (List.getElem_mem _)).ext hEE
        have hp1 := fun w3 (hg : Ext wr w3) => valid_prg ps[k] w3 (hix.ext hg)
        have hp2 := fun w3 (hg : Ext wr w3) => valid_ref ps[k] w3 (hix.ext hg)
        clear c0' c1' c2' c3' hix hEE
        generalize ps[k] = x at *
        obtain ⟨⟨xa, xn, xc, xb, xm, xd⟩, xr, pa, pb⟩ := x
        simp only [Hd.x, Hd.y, tv] at c0 c1 c2 c3 hp1 hp2
        generalize vldT ⟨xr, pa, pb⟩ = bb at *
        have HP1 := Lib.hid hp1
        have HP2 := Lib.hid hp2
        clear hp1 hp2
        obtain ⟨b0, b1, b2, b3⟩ := box4 wr (.slice xa xn xc) (.int .i64 pa) (.int .i64 pb) (.slice xb xm xd) 32
        have hE0 : Ext wr (wr.alloc (.cells #[.slice xa xn xc, .int .i64 pa, .int .i64 pb, .slice xb xm xd] 32)) := (Ext.refl wr).alloc _ _
        go_wp2_with fail
        generalize wr.alloc (.cells #[.slice xa xn xc, .int .i64 pa, .int .i64 pb, .slice xb xm xd] 32) = w3 at *
        have B0 := Lib.hid b0
        have B1 := Lib.hid b1
        have B2 := Lib.hid b2
        have B3 := Lib.hid b3
        have HE0 := Lib.hid hE0
        have hz : wr.heap.size < w3.heap.size := World.block_lt_of_cell? _ _ b0
        clear b0 b1 b2 b3 c0 c1 c2 c3 hE0
        cases bb with
        | true =>
          go_region_held3 (fun w' => w'.cell? ⟨wr.heap.size, 0, none⟩ = some (.slice xa xn xc) ∧ w'.cell? ⟨wr.heap.size, 1, none⟩ = some (.int .i64 pa) ∧ w'.cell? ⟨wr.heap.size, 2, none⟩ = some (.int .i64 pb) ∧ w'.cell? ⟨wr.heap.size, 3, none⟩ = some (.slice xb xm xd)) (first | exact ⟨B0.out, B1.out, B2.out, B3.out⟩ | exact ⟨f0, f1, f2, f3⟩ | exact ⟨g0, g1, g2, g3⟩ | go_keep)
            (first | (go_at_call 14; refine (HP1.out _ ?_).mono ?_; (first | exact HE0.out | exact HE0.out.drew); rintro e w4 ⟨rfl, hE4⟩; have e4 : Ext w3 w4 := ⟨hE4.1, hE4.2.1, hE4.2.2⟩; have f0 := e4.keeps B0.out; have f1 := e4.keeps B1.out; have f2 := e4.keeps B2.out; have f3 := e4.keeps B3.out; clear hE4) | (go_at_call 15; refine (HP2.out _ ?_).mono ?_; (first | exact HE0.out.trans e4 | exact (HE0.out.trans e4).drew); rintro e w5 ⟨rfl, hE5⟩; have e5 : Ext w4 w5 := ⟨hE5.1, hE5.2.1, hE5.2.2⟩; have g0 := e5.keeps f0; have g1 := e5.keeps f1; have g2 := e5.keeps f2; have g3 := e5.keeps f3; clear hE5))
          all_goals
            go_wp2_with fail
            go_roundw
            case rel => exact ⟨k + 1, hlt, by go_num, hE.trans (HE0.out.trans (e4.trans e5))⟩
            case measure => simp [intOf]; omega
        | false =>
          go_region_held3 (fun w' => w'.cell? ⟨wr.heap.size, 0, none⟩ = some (.slice xa xn xc) ∧ w'.cell? ⟨wr.heap.size, 1, none⟩ = some (.int .i64 pa) ∧ w'.cell? ⟨wr.heap.size, 2, none⟩ = some (.int .i64 pb) ∧ w'.cell? ⟨wr.heap.size, 3, none⟩ = some (.slice xb xm xd)) (first | exact ⟨B0.out, B1.out, B2.out, B3.out⟩ | exact ⟨f0, f1, f2, f3⟩ | exact ⟨g0, g1, g2, g3⟩ | go_keep)
            (first | (go_at_call 14; refine (HP1.out _ ?_).mono ?_; (first | exact HE0.out | exact HE0.out.drew); rintro e w4 ⟨rfl, hE4⟩; have e4 : Ext w3 w4 := ⟨hE4.1, hE4.2.1, hE4.2.2⟩; have f0 := e4.keeps B0.out; have f1 := e4.keeps B1.out; have f2 := e4.keeps B2.out; have f3 := e4.keeps B3.out; clear hE4) | (go_at_call 15; refine (HP2.out _ ?_).mono ?_; (first | exact HE0.out.trans e4 | exact (HE0.out.trans e4).drew); rintro e w5 ⟨rfl, hE5⟩; have e5 : Ext w4 w5 := ⟨hE5.1, hE5.2.1, hE5.2.2⟩; have g0 := e5.keeps f0; have g1 := e5.keeps f1; have g2 := e5.keeps f2; have g3 := e5.keeps f3; clear hE5))
          all_goals
            go_wp2_with fail
            go_roundw
            case rel => exact ⟨k + 1, hlt, by go_num, hE.trans (HE0.out.trans (e4.trans e5))⟩
            case measure => simp [intOf]; omega
      · have HW := Lib.hid (HEW.out.trans hE)
        have HRW := Lib.hid hE
        have k0 := (HE2.out.trans hE).keeps Z0.out
        have k1 := (HE2.out.trans hE).keeps Z1.out
        have K0 := Lib.hid k0
        have K1 := Lib.hid k1
        have HV := Lib.hid (show RdG w (.slice ad n cap) ps from H.out)
        have HL16 := Lib.hid (show ps.length ≤ 400 from by have := HPL.out; omega)
        have HL17 := Lib.hid (show ps.length ≤ 100000 from by have := HPL.out; omega)
        have HRL := Lib.hid (show rs.length ≤ 100000 from by have := sl_len' HR3.out; have := HPL.out; omega)
        have HRS := Lib.hid (sl_sm (few_sm HB.out) HR3.out)
        have HSP := Lib.hid (few_sm HB.out)
        clear k0 k1
        go_wp2_with fail
        go_region_held3 (fun w' => w'.cell? ⟨w.heap.size, 0, none⟩ = some (.int .i64 a) ∧ w'.cell? ⟨w.heap.size, 1, none⟩ = some (.int .i64 b)) (first | exact ⟨K0.out, K1.out⟩ | exact ⟨E1.out.keeps K0.out, E1.out.keeps K1.out⟩ | exact ⟨E2.out.keeps K0.out, E2.out.keeps K1.out⟩ | exact ⟨E3.out.keeps K0.out, E3.out.keeps K1.out⟩ | exact ⟨E4.out.keeps K0.out, E4.out.keeps K1.out⟩ | exact ⟨E5.out.keeps K0.out, E5.out.keeps K1.out⟩ | exact ⟨E6.out.keeps K0.out, E6.out.keeps K1.out⟩ | exact ⟨E7.out.keeps K0.out, E7.out.keeps K1.out⟩ | exact ⟨E8.out.keeps K0.out, E8.out.keeps K1.out⟩ | exact ⟨E9.out.keeps K0.out, E9.out.keeps K1.out⟩ | go_keep)
          (first | (go_at_call 12; refine (awake_law _).mono ?_; rintro e x1 ⟨rfl, hE1⟩; have E1 := Lib.hid (show Ext wr x1 from ⟨hE1.1, hE1.2.1, hE1.2.2⟩); clear hE1) | (go_at_call 17; refine (tslice_ref ps t _ _ ?_ ?_ HL17.out HSP.out).mono ?_; (exact HV.out.ext (HW.out.trans E1.out)); (exact HI.out.ext (HW.out.trans E1.out)); rintro e x2 ⟨y2, us, rfl, u1, u2, u3, hE2⟩; have U1 := Lib.hid u1; have U2 := Lib.hid u2; have U3 := Lib.hid u3; have E2 := Lib.hid (E1.out.trans (show Ext x1 x2 from ⟨hE2.1, hE2.2.1, hE2.2.2⟩)); clear u1 u2 u3 hE2) | (go_at_call 16; refine (sameRows_yes rs us _ _ _ ?_ ?_ ?_ ?_ (HR3.out.trans U3.out.symm)).mono ?_; (exact HR1.out.ext (HRW.out.trans E2.out)); (exact U1.out); (exact HR2.out.ext (HRW.out.trans E2.out)); (exact U2.out); rintro e x3 ⟨rfl, hE3⟩; have E3 := Lib.hid (E2.out.trans (show Ext x2 x3 from ⟨hE3.1, hE3.2.1, hE3.2.2⟩)); clear hE3) | (go_at_call 19; refine (bounds_prg ps _ _ ?_ HL17.out).mono ?_; (exact HV.out.ext (HW.out.trans E3.out)); rintro e x4 ⟨y4, pts, rfl, p1, p2, hE4⟩; have P1 := Lib.hid p1; have P2 := Lib.hid p2; have E4 := Lib.hid (E3.out.trans (show Ext x3 x4 from ⟨hE4.1, hE4.2.1, hE4.2.2⟩)); clear p1 p2 hE4) | (go_at_call 20; refine (bounds_ref ps _ _ ?_ HL16.out).mono ?_; (exact HV.out.ext (HW.out.trans E4.out)); rintro e x5 ⟨y5, pts2, rfl, q1, q2, hE5⟩; obtain rfl := q2.unique P2.out; have Q1 := Lib.hid q1; have P1b := Lib.hid (P1.out.ext (show Ext x4 x5 from ⟨hE5.1, hE5.2.1, hE5.2.2⟩)); have E5 := Lib.hid (E4.out.trans (show Ext x4 x5 from ⟨hE5.1, hE5.2.1, hE5.2.2⟩)); clear q1 q2 hE5) | (go_at_call 18; refine (same_ints _ _ _ _ P1b.out Q1.out).mono ?_; rintro e x6 ⟨rfl, hE6⟩; have E6 := Lib.hid (E5.out.trans (show Ext x5 x6 from ⟨hE6.1, hE6.2.1, hE6.2.2⟩)); clear hE6) | (go_at_call 22; refine (from_prg rs a b _ _ ?_ ?_ HRL.out HRS.out).mono ?_; (exact HR1.out.ext (HRW.out.trans E6.out)); (exact HR2.out.ext (HRW.out.trans E6.out)); rintro e x7 ⟨y7, qs, rfl, m1, m2, m3, hE7⟩; have M1 := Lib.hid m1; have M2 := Lib.hid m2; have M3 := Lib.hid m3; have E7 := Lib.hid (E6.out.trans (show Ext x6 x7 from ⟨hE7.1, hE7.2.1, hE7.2.2⟩)); clear m1 m2 m3 hE7) | (go_at_call 23; refine (from_ref rs a b _ _ ?_ ?_ HRL.out).mono ?_; (exact HR1.out.ext (HRW.out.trans E7.out)); (exact HR2.out.ext (HRW.out.trans E7.out)); rintro e x8 ⟨y8, qs2, rfl, l1, l2, l3, hE8⟩; have L1 := Lib.hid l1; have L2 := Lib.hid l2; have L3 := Lib.hid l3; have M1b := Lib.hid (M1.out.ext (show Ext x7 x8 from ⟨hE8.1, hE8.2.1, hE8.2.2⟩)); have M2b := Lib.hid (M2.out.ext (show Ext x7 x8 from ⟨hE8.1, hE8.2.1, hE8.2.2⟩)); have E8 := Lib.hid (E7.out.trans (show Ext x7 x8 from ⟨hE8.1, hE8.2.1, hE8.2.2⟩)); clear l1 l2 l3 hE8) | (go_at_call 21; refine (sameT_yes qs qs2 _ _ _ M1b.out L1.out M2b.out L2.out (M3.out.trans L3.out.symm)).mono ?_; rintro e x9 ⟨rfl, hE9⟩; have E9 := Lib.hid (E8.out.trans (show Ext x8 x9 from ⟨hE9.1, hE9.2.1, hE9.2.2⟩)); clear hE9))
        all_goals
          go_wp2_with fail
          go_ret
          exact ⟨rfl, HW.out.trans E9.out⟩
end Go.Proofs.YtcankdikbnllkaaGreat
