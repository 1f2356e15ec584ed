/- The reference's SameRows. -/
import Derived.Test.YtcankdikbnllkaaGreatZz22
import Derived.Test.YtcankdikbnllkaaGreatZz28
import Derived.Test.YtcankdikbnllkaaGreatZz33
namespace Go.Proofs.YtcankdikbnllkaaGreat
open Go.ChangeShapes Go.WideShapes Go.ChangeAt Go.RowKit

/-- SameRow over an elder world -/
theorem sameRowE (W0 : World) (x y : P) (w : World) (hx : RdRow W0 x) (hy : RdRow W0 y) (h : Ext W0 w) : Calls Tryz.prog 39 #[.agg #[x.h.x, x.h.y], .agg #[y.h.x, y.h.y]] w fun e w' => e = .returned (.bool (sameB x.r y.r)) ∧ (∀ b o, b < W0.heap.size → w'.cell? ⟨b, o, none⟩ = W0.cell? ⟨b, o, none⟩) ∧ Ext W0 w' :=
  heldE W0 (sameRow_ref x.r y.r _ _ _ _ w (hx.1.ext h) (hx.2.ext h) (hy.1.ext h) (hy.2.ext h)) h
def srB (a b : List R) : Bool := decide (a = b)
def SrR (w : World) (a b : List R) (i : Value) (wr : World) : Prop := ∃ k : Nat, k ≤ a.length ∧ i = .int .i64 k ∧ Hid (a.take k = b.take k) ∧ Ext w wr
theorem sr_no {a b : List R} {k : Nat} (ha : k < a.length) (hb : k < b.length) (h : a[k] ≠ b[k]) : srB a b = false := by
  unfold srB
  simp only [decide_eq_false_iff_not]
  rintro rfl
  exact h rfl
theorem sr_next {a b : List R} {k : Nat} (ha : k < a.length) (hb : k < b.length) (e : a.take k = b.take k) (h : a[k] = b[k]) : a.take (k + 1) = b.take (k + 1) := by
  rw [List.take_succ_eq_append_getElem ha, List.take_succ_eq_append_getElem hb, e, h]
set_option maxHeartbeats 4000000 in
set_option maxRecDepth 100000 in
theorem sameRows_ref (ps qs : List P) (va vb : Value) (w : World) (hra : RdG w va ps) (hrb : RdG w vb qs) (hia : RdAll w ps) (hib : RdAll w qs) :
    Calls Tryz.prog 16 #[va, vb] w fun e w' => e = .returned (.bool (srB (rows ps) (rows qs))) ∧ Ext w w' := by
  obtain ⟨ad, cap, rfl, h1, h2⟩ := hra.shape
  obtain ⟨bd, bcap, rfl, i1, i2⟩ := hrb.shape
  have H4 := Lib.hid hra
  have I4 := Lib.hid hrb
  have HA := Lib.hid hia
  have HB := Lib.hid hib
  clear hra hrb hia hib
  obtain ⟨n, hn⟩ : ∃ n, n = ps.length := ⟨_, rfl⟩
  obtain ⟨m, hm⟩ : ∃ m, m = qs.length := ⟨_, rfl⟩
  have HN := Lib.hid hn
  have HM := Lib.hid hm
  rw [← hn] at h1 H4 ⊢
  rw [← hm] at i1 I4 ⊢
  clear hn hm
  have HLA := Lib.hid (show (rows ps).length = n by rw [rows_len, HN.out])
  have HLB := Lib.hid (show (rows qs).length = m by rw [rows_len, HM.out])
  unfold maxLen at h2 i2
  by_cases hnm : n = m
  · subst hnm
    go_enter Tryz.func16, Tryz.ntmps16
    go_wp2_with fail
    go_loopw [5] (SrR w (rows ps) (rows qs)) (fun i _ => n - (intOf i).toNat)
    case atStart => exact ⟨0, Nat.zero_le _, rfl, Lib.hid (by simp), Ext.refl _⟩
    case round =>
      obtain ⟨k, hk, rfl, HT, hE⟩ := hrel
      have hkn : k ≤ n := by rw [← HLA.out]; exact hk
      by_cases hlt : k < n
      · have hlt' : k < ps.length := by rw [← HN.out]; exact hlt
        have hlt2' : k < qs.length := by rw [← HM.out]; exact hlt
        have hltr : k < (rows ps).length := by rw [rows_len]; exact hlt'
        have hltr2 : k < (rows qs).length := by rw [rows_len]; exact hlt2'
        obtain ⟨g, o, rfl, c0', c1'⟩ := rd_P H4.out k hlt'
        obtain ⟨g2, o2, rfl, d0', d1'⟩ := rd_P I4.out k hlt2'
        have c0 := hE.keeps c0'
        have c1 := hE.keeps c1'
        have d0 := hE.keeps d0'
        have d1 := hE.keeps d1'
        have hix := (HA.out ps[k] (List.getElem_mem _)).ext hE
        have hiy := (HB.out qs[k] (List.getElem_mem _)).ext hE
        have HN1 := Lib.hid (@sr_no (rows ps) (rows qs) k hltr hltr2)
        have HN2 := Lib.hid (@sr_next (rows ps) (rows qs) k hltr hltr2 HT.out)
        rw [rows_at ps k hlt', rows_at qs k hlt2'] at HN1 HN2
        have hi0 : (0 : Int) ≤ (k : Int) := Int.natCast_nonneg _
        have hi1 : (k : Int) < (n : Int) := by omega
        clear c0' c1' d0' d1'
        generalize ps[k] = x at *
        generalize qs[k] = y at *
        have hcv := sameRowE wr x y
        obtain ⟨⟨xa, xn, xc, xb, xm, xd⟩, xr⟩ := x
        obtain ⟨⟨ya, yn, yc, yb, ym, yd⟩, yr⟩ := y
        simp only [Hd.x, Hd.y] at c0 c1 d0 d1 hcv
        have K0 := Lib.hid c0
        have K1 := Lib.hid c1
        have K2 := Lib.hid d0
        have K3 := Lib.hid d1
        have HIX := Lib.hid hix
        have HIY := Lib.hid hiy
        clear hix hiy
        have hyes : sameB xr yr = true → xr = yr := by unfold sameB; simp
        have hno : sameB xr yr = false → xr ≠ yr := by unfold sameB; simp
        cases hb : sameB xr yr with
        | true =>
          rw [hb] at hcv
          have HV := Lib.hid hcv
          have HX := Lib.hid (HN2.out (hyes hb))
          clear hcv hb hyes hno
          go_wp2_with fail
          go_region_held3 (fun w' => w'.cell? ⟨g, o + k * 2, none⟩ = some (.slice xa xn xc) ∧ w'.cell? ⟨g, o + k * 2 + 1, none⟩ = some (.slice xb xm xd) ∧ w'.cell? ⟨g2, o2 + k * 2, none⟩ = some (.slice ya yn yc) ∧ w'.cell? ⟨g2, o2 + k * 2 + 1, none⟩ = some (.slice yb ym yd)) (first | exact ⟨K0.out, K1.out, K2.out, K3.out⟩ | exact ⟨f0, f1, f2, f3⟩ | go_keep)
            (first | (go_at_call 39; refine (HV.out _ HIX.out HIY.out ?_).mono ?_; (first | assumption | exact Ext.refl _ | exact (Ext.refl _).drew); rintro e w3 ⟨rfl, q0, qG⟩; have f0 := qG.keeps K0.out; have f1 := qG.keeps K1.out; have f2 := qG.keeps K2.out; have f3 := qG.keeps K3.out))
          all_goals
            go_wp2_with fail
            go_roundw
            case rel => exact ⟨k + 1, hltr, by go_num, HX, hE.trans qG⟩
            case measure => simp [intOf]; omega
        | false =>
          rw [hb] at hcv
          have HV := Lib.hid hcv
          have HX := Lib.hid (HN1.out (hno hb))
          clear hcv hb hyes hno
          go_wp2_with fail
          go_region_held3 (fun w' => w'.cell? ⟨g, o + k * 2, none⟩ = some (.slice xa xn xc) ∧ w'.cell? ⟨g, o + k * 2 + 1, none⟩ = some (.slice xb xm xd) ∧ w'.cell? ⟨g2, o2 + k * 2, none⟩ = some (.slice ya yn yc) ∧ w'.cell? ⟨g2, o2 + k * 2 + 1, none⟩ = some (.slice yb ym yd)) (first | exact ⟨K0.out, K1.out, K2.out, K3.out⟩ | exact ⟨f0, f1, f2, f3⟩ | go_keep)
            (first | (go_at_call 39; refine (HV.out _ HIX.out HIY.out ?_).mono ?_; (first | assumption | exact Ext.refl _ | exact (Ext.refl _).drew); rintro e w3 ⟨rfl, q0, qG⟩; have f0 := qG.keeps K0.out; have f1 := qG.keeps K1.out; have f2 := qG.keeps K2.out; have f3 := qG.keeps K3.out))
          all_goals
            go_wp2_with fail
            try simp only [Exit.inBlock, Exit.then]
            go_ret
            exact ⟨ret_bool HX.out.symm, hE.trans qG⟩
      · have HR := Lib.hid (show srB (rows ps) (rows qs) = true by
          have h1 := HT.out
          rw [List.take_of_length_le (by rw [HLA.out]; omega), List.take_of_length_le (by rw [HLB.out]; omega)] at h1
          unfold srB
          simpa using h1)
        go_wp2_with fail
        go_ret
        exact ⟨ret_bool HR.out.symm, hE⟩
  · have hb : ((n : Int) == (m : Int)) = false := by simp; omega
    have hb2 : ¬ ((n : Int) = (m : Int)) := by omega
    have HV := Lib.hid (show srB (rows ps) (rows qs) = false by
      unfold srB
      simp only [decide_eq_false_iff_not]
      intro h
      have := congrArg List.length h
      rw [HLA.out, HLB.out] at this
      exact hnm this)
    go_enter Tryz.func16, Tryz.ntmps16
    go_wp2_with fail
    go_ret
    exact ⟨ret_bool HV.out.symm, Ext.refl _⟩
end Go.Proofs.YtcankdikbnllkaaGreat
/- The program's Equivalent: slices.EqualFunc at tuples. -/
namespace Go.Proofs.YtcankdikbnllkaaGreat
open Go.ChangeShapes Go.WideShapes Go.ChangeAt Go.RowKit

def tuB (a b : List Tu) : Bool := decide (a = b)
theorem tu_no {a b : List Tu} {k : Nat} (ha : k < a.length) (hb : k < b.length) (h : a[k] ≠ b[k]) : tuB a b = false := by
  unfold tuB
  simp only [decide_eq_false_iff_not]
  intro e
  subst e
  exact h rfl
theorem tuB_next {a b : List Tu} {k : Nat} (ha : k < a.length) (hb : k < b.length) (e : a.take k = b.take k) (h : a[k] = b[k]) : a.take (k + 1) = b.take (k + 1) := by
  rw [List.take_succ_eq_append_getElem ha, List.take_succ_eq_append_getElem hb, e, h]
theorem tu_len {a b : List Tu} (h : a.length ≠ b.length) : tuB a b = false := by
  unfold tuB
  simp only [decide_eq_false_iff_not]
  intro e
  subst e
  exact h rfl
theorem tu_end {a b : List Tu} {k : Nat} (ha : a.length ≤ k) (hb : b.length ≤ k) (e : a.take k = b.take k) : tuB a b = true := by
  rw [List.take_of_length_le ha, List.take_of_length_le hb] at e
  unfold tuB; simpa using e
def EqfR (w : World) (a b : List Tu) (i : Value) (wr : World) : Prop := ∃ k : Nat, k ≤ a.length ∧ i = .int .i64 k ∧ Hid (a.take k = b.take k) ∧ Ext w wr
set_option maxHeartbeats 8000000 in
set_option maxRecDepth 100000 in
theorem eqf_prg (ps qs : List TP) (va vb : Value) (w : World) (ha : RdG w va ps) (hb : RdG w vb qs) (ia : RdTs w ps) (ib : RdTs w qs) :
    Calls Tryz.prog 52 #[va, vb, .func (.func 53) #[] #[]] w fun e w' => e = .returned (.bool (tuB (tus ps) (tus qs))) ∧ Ext w w' := by
  obtain ⟨ad, cap, rfl, h1, h2⟩ := ha.shape
  obtain ⟨bd, bcap, rfl, i1, i2⟩ := hb.shape
  have HA := Lib.hid ha
  have HB := Lib.hid hb
  have IA := Lib.hid ia
  have IB := Lib.hid ib
  clear ha hb ia ib
  obtain ⟨n, hn⟩ : ∃ n, n = ps.length := ⟨_, rfl⟩
  obtain ⟨m, hm⟩ : ∃ m, m = qs.length := ⟨_, rfl⟩
  have HN := Lib.hid hn
  have HM := Lib.hid hm
  rw [← hn] at h1 HA ⊢
  rw [← hm] at i1 HB ⊢
  clear hn hm
  have HLA := Lib.hid (show (tus ps).length = n by rw [tus_len, HN.out])
  have HLB := Lib.hid (show (tus qs).length = m by rw [tus_len, HM.out])
  unfold maxLen at h2 i2
  by_cases hnm : n = m
  · subst hnm
    go_enter Tryz.func52, Tryz.ntmps52
    go_wp2_with fail
    go_loopw [17] (EqfR w (tus ps) (tus qs)) (fun i _ => n - (intOf i).toNat)
    case atStart => exact ⟨0, Nat.zero_le _, rfl, Lib.hid (by simp), Ext.refl _⟩
    case round =>
      obtain ⟨k, hk, rfl, HT, hE⟩ := hrel
      have hkn : k ≤ n := by rw [← HLA.out]; exact hk
      by_cases hlt : k < n
      · have hlt' : k < ps.length := by rw [← HN.out]; exact hlt
        have hlt2' : k < qs.length := by rw [← HM.out]; exact hlt
        have hltr : k < (tus ps).length := by rw [tus_len]; exact hlt'
        have hltr2 : k < (tus qs).length := by rw [tus_len]; exact hlt2'
        obtain ⟨g, o, rfl, c0', c1', c2', c3'⟩ := rd_T HA.out k hlt'
        obtain ⟨g2, o2, rfl, d0', d1', d2', d3'⟩ := rd_T HB.out k hlt2'
        have c0 := hE.keeps c0'
        have c1 := hE.keeps c1'
        have c2 := hE.keeps c2'
        have c3 := hE.keeps c3'
        have hix := IA.out ps[k] (List.getElem_mem _)
        have hiy := IB.out qs[k] (List.getElem_mem _)
        have HN1 := Lib.hid (@tu_no (tus ps) (tus qs) k hltr hltr2)
        have HN2 := Lib.hid (@tuB_next (tus ps) (tus qs) k hltr hltr2 HT.out)
        rw [tus_at ps k hlt', tus_at qs k hlt2'] at HN1 HN2
        have hi0 : (0 : Int) ≤ (k : Int) := Int.natCast_nonneg _
        have hi1 : (k : Int) < (n : Int) := by omega
        have hcv := fun w2 (hg : Ext w w2) => isSame_gw ps[k] qs[k] w2 (hix.ext hg) (hiy.ext hg)
        clear c0' c1' c2' c3' hix hiy
        generalize ps[k] = x at *
        generalize qs[k] = y at *
        have hyes : sameT x.tu y.tu = true → x.tu = y.tu := by unfold sameT; simp
        have hno : sameT x.tu y.tu = false → x.tu ≠ y.tu := by unfold sameT; simp
        obtain ⟨⟨xa, xn, xc, xb, xm, xd⟩, xr, pa, pb⟩ := x
        obtain ⟨⟨ya, yn, yc, yb, ym, yd⟩, yr, qa, qb⟩ := y
        simp only [Hd.x, Hd.y, tv] at c0 c1 c2 c3 d0' d1' d2' d3' hcv
        obtain ⟨B0, B1, B2, B3⟩ := box4 wr (.slice xa xn xc) (.int .i64 pa) (.int .i64 pb) (.slice xb xm xd) 32
        have EX : Ext wr (wr.alloc (.cells #[.slice xa xn xc, .int .i64 pa, .int .i64 pb, .slice xb xm xd] 32)) := (Ext.refl wr).alloc _ _
        have d0 := (hE.trans EX).keeps d0'
        have d1 := (hE.trans EX).keeps d1'
        have d2 := (hE.trans EX).keeps d2'
        have d3 := (hE.trans EX).keeps d3'
        clear d0' d1' d2' d3'
        cases hb : sameT ⟨xr, pa, pb⟩ ⟨yr, qa, qb⟩ with
        | true =>
          rw [hb] at hcv
          have HV := Lib.hid hcv
          have HX := Lib.hid (HN2.out (hyes hb))
          clear hcv hb hyes hno
          go_wp2_with fail
          refine (HV.out _ ((hE.trans EX).alloc _ _)).mono ?_; rintro e w1 ⟨rfl, hg⟩
          have hE1 := ((hE.trans EX).alloc _ _).trans hg.ext
          clear B0 B1 B2 B3 c0 c1 c2 c3 d0 d1 d2 d3 hg
          go_wp2_with fail
          go_roundw
          case rel => exact ⟨k + 1, hltr, by go_num, HX, hE1⟩
          case measure => simp [intOf]; omega
        | false =>
          rw [hb] at hcv
          have HV := Lib.hid hcv
          have HX := Lib.hid (HN1.out (hno hb))
          clear hcv hb hyes hno
          go_wp2_with fail
          refine (HV.out _ ((hE.trans EX).alloc _ _)).mono ?_; rintro e w1 ⟨rfl, hg⟩
          have hE1 := ((hE.trans EX).alloc _ _).trans hg.ext
          clear B0 B1 B2 B3 c0 c1 c2 c3 d0 d1 d2 d3 hg
          go_wp2_with fail
          try simp only [Exit.inBlock, Exit.then]
          go_ret
          exact ⟨ret_bool HX.out.symm, hE1⟩
      · have HR := Lib.hid (tu_end (by rw [HLA.out]; omega) (by rw [HLB.out]; omega) HT.out)
        go_wp2_with fail
        go_ret
        exact ⟨ret_bool HR.out.symm, hE⟩
  · have hb : ((n : Int) == (m : Int)) = false := by simp; omega
    have hb2 : ¬ ((n : Int) = (m : Int)) := by omega
    have HV := Lib.hid (show tuB (tus ps) (tus qs) = false from tu_len (by rw [HLA.out, HLB.out]; exact hnm))
    go_enter Tryz.func52, Tryz.ntmps52
    go_wp2_with fail
    go_ret
    exact ⟨ret_bool HV.out.symm, Ext.refl _⟩
/-- whether the same rows hold everywhere -/
def EqvP (a b : List Tu) : Prop := ∀ r t, ats a r t = ats b r t
set_option maxHeartbeats 1000000 in
theorem equiv_prg (ps qs : List TP) (va vb : Value) (w : World) (ha : RdG w va ps) (hb : RdG w vb qs) (ia : RdTs w ps) (ib : RdTs w qs) (la : ps.length ≤ 100000) (lb : qs.length ≤ 100000) :
    Calls Tryz.prog 27 #[va, vb] w fun e w' => ∃ b : Bool, e = .returned (.bool b) ∧ (b = true ↔ EqvP (tus ps) (tus qs)) ∧ Ext w w' := by
  have HA := Lib.hid ha
  have HB := Lib.hid hb
  have IA := Lib.hid ia
  have IB := Lib.hid ib
  have LA := Lib.hid la
  have LB := Lib.hid lb
  clear ha hb ia ib la lb
  go_enter Tryz.func27, Tryz.ntmps27
  go_wp2_with fail
  refine (form_prg ps va w HA.out IA.out LA.out).mono ?_; rintro e w1 ⟨v1, N, rfl, hO, hN, hf, _⟩
  have HO := Lib.hid hO
  have HN := Lib.hid hN
  have HF := Lib.hid hf
  clear hO hN hf
  go_wp2_with fail
  refine (form_prg qs vb w1 (HB.out.ext HO.out.2) (IB.out.ext HO.out.2) LB.out).mono ?_; rintro e w2 ⟨v2, M, rfl, hO2, hM, hf2, _⟩
  have HO2 := Lib.hid hO2
  have HM := Lib.hid hM
  have HF2 := Lib.hid hf2
  clear hO2 hM hf2
  go_wp2_with fail
  refine (eqf_prg N M v1 v2 w2 (HO.out.rd.ext HO2.out.2) HO2.out.rd (HN.out.ext HO2.out.2) HM.out).mono ?_; rintro e w3 ⟨rfl, hE3⟩
  have HE3 := Lib.hid hE3
  clear hE3
  go_wp2_with fail
  go_ret
  refine ⟨_, rfl, ?_, (HO.out.2.trans HO2.out.2).trans HE3.out⟩
  unfold tuB
  rw [decide_eq_true_iff]
  exact nf_iff HF.out HF2.out
end Go.Proofs.YtcankdikbnllkaaGreat
