/- The reference's SameRows and Multiplicity. -/
import Derived.Test.YtohpmbabegpefaaLs8
namespace Go.Proofs.Ytohpmbabegpefaa
open Go.ChangeShapes Go.WideShapes Go.ChangeAt Go.RowKit

/-- SameRow over an elder world -/
theorem sameRowE (W0 : World) (x y : P) (w : World) (hx : RdRow W0 x) (hy : RdRow W0 y) (h : Ext W0 w) : Calls Try.prog 24 #[.agg #[x.h.x, x.h.y], .agg #[y.h.x, y.h.y]] w fun e w' => e = .returned (.bool (sameB x.r y.r)) ∧ (∀ b o, b < W0.heap.size → w'.cell? ⟨b, o, none⟩ = W0.cell? ⟨b, o, none⟩) ∧ Ext W0 w' :=
  heldE W0 (sameRow_ref x.r y.r _ _ _ _ w (hx.1.ext h) (hx.2.ext h) (hy.1.ext h) (hy.2.ext h)) h
def srB (a b : List R) : Bool := decide (a = b)
def SrR (w : World) (a b : List R) (i : Value) (wr : World) : Prop := ∃ k : Nat, k ≤ a.length ∧ i = .int .i64 k ∧ Hid (a.take k = b.take k) ∧ Ext w wr
theorem sr_no {a b : List R} {k : Nat} (ha : k < a.length) (hb : k < b.length) (h : a[k] ≠ b[k]) : srB a b = false := by
  unfold srB
  simp only [decide_eq_false_iff_not]
  rintro rfl
  exact h rfl
theorem sr_next {a b : List R} {k : Nat} (ha : k < a.length) (hb : k < b.length) (e : a.take k = b.take k) (h : a[k] = b[k]) : a.take (k + 1) = b.take (k + 1) := by
  rw [List.take_succ_eq_append_getElem ha, List.take_succ_eq_append_getElem hb, e, h]
set_option maxHeartbeats 4000000 in
set_option maxRecDepth 100000 in
theorem sameRows_ref (ps qs : List P) (va vb : Value) (w : World) (hra : RdG w va ps) (hrb : RdG w vb qs) (hia : RdAll w ps) (hib : RdAll w qs) :
    Calls Try.prog 11 #[va, vb] w fun e w' => e = .returned (.bool (srB (rows ps) (rows qs))) ∧ Ext w w' := by
  obtain ⟨ad, cap, rfl, h1, h2⟩ := hra.shape
  obtain ⟨bd, bcap, rfl, i1, i2⟩ := hrb.shape
  have H4 := Lib.hid hra
  have I4 := Lib.hid hrb
  have HA := Lib.hid hia
  have HB := Lib.hid hib
  clear hra hrb hia hib
  obtain ⟨n, hn⟩ : ∃ n, n = ps.length := ⟨_, rfl⟩
  obtain ⟨m, hm⟩ : ∃ m, m = qs.length := ⟨_, rfl⟩
  have HN := Lib.hid hn
  have HM := Lib.hid hm
  rw [← hn] at h1 H4 ⊢
  rw [← hm] at i1 I4 ⊢
  clear hn hm
  have HLA := Lib.hid (show (rows ps).length = n by rw [rows_len, HN.out])
  have HLB := Lib.hid (show (rows qs).length = m by rw [rows_len, HM.out])
  unfold maxLen at h2 i2
  by_cases hnm : n = m
  · subst hnm
    go_enter Try.func11, Try.ntmps11
    go_wp2_with fail
    go_loopw [5] (SrR w (rows ps) (rows qs)) (fun i _ => n - (intOf i).toNat)
    case atStart => exact ⟨0, Nat.zero_le _, rfl, Lib.hid (by simp), Ext.refl _⟩
    case round =>
      obtain ⟨k, hk, rfl, HT, hE⟩ := hrel
      have hkn : k ≤ n := by rw [← HLA.out]; exact hk
      by_cases hlt : k < n
      · have hlt' : k < ps.length := by rw [← HN.out]; exact hlt
        have hlt2' : k < qs.length := by rw [← HM.out]; exact hlt
        have hltr : k < (rows ps).length := by rw [rows_len]; exact hlt'
        have hltr2 : k < (rows qs).length := by rw [rows_len]; exact hlt2'
        obtain ⟨g, o, rfl, c0', c1'⟩ := rd_P H4.out k hlt'
        obtain ⟨g2, o2, rfl, d0', d1'⟩ := rd_P I4.out k hlt2'
        have c0 := hE.keeps c0'
        have c1 := hE.keeps c1'
        have d0 := hE.keeps d0'
        have d1 := hE.keeps d1'
        have hix := (HA.out ps[k] (List.getElem_mem _)).ext hE
        have hiy := (HB.out qs[k] (List.getElem_mem _)).ext hE
        have HN1 := Lib.hid (@sr_no (rows ps) (rows qs) k hltr hltr2)
        have HN2 := Lib.hid (@sr_next (rows ps) (rows qs) k hltr hltr2 HT.out)
        rw [rows_at ps k hlt', rows_at qs k hlt2'] at HN1 HN2
        have hi0 : (0 : Int) ≤ (k : Int) := Int.natCast_nonneg _
        have hi1 : (k : Int) < (n : Int) := by omega
        clear c0' c1' d0' d1'
        generalize ps[k] = x at *
        generalize qs[k] = y at *
        have hcv := sameRowE wr x y
        obtain ⟨⟨xa, xn, xc, xb, xm, xd⟩, xr⟩ := x
        obtain ⟨⟨ya, yn, yc, yb, ym, yd⟩, yr⟩ := y
        simp only [Hd.x, Hd.y] at c0 c1 d0 d1 hcv
        have K0 := Lib.hid c0
        have K1 := Lib.hid c1
        have K2 := Lib.hid d0
        have K3 := Lib.hid d1
        have HIX := Lib.hid hix
        have HIY := Lib.hid hiy
        clear hix hiy
        have hyes : sameB xr yr = true → xr = yr := by unfold sameB; simp
        have hno : sameB xr yr = false → xr ≠ yr := by unfold sameB; simp
        cases hb : sameB xr yr with
        | true =>
          rw [hb] at hcv
          have HV := Lib.hid hcv
          have HX := Lib.hid (HN2.out (hyes hb))
          clear hcv hb hyes hno
          go_wp2_with fail
          go_region_held3 (fun w' => w'.cell? ⟨g, o + k * 2, none⟩ = some (.slice xa xn xc) ∧ w'.cell? ⟨g, o + k * 2 + 1, none⟩ = some (.slice xb xm xd) ∧ w'.cell? ⟨g2, o2 + k * 2, none⟩ = some (.slice ya yn yc) ∧ w'.cell? ⟨g2, o2 + k * 2 + 1, none⟩ = some (.slice yb ym yd)) (first | exact ⟨K0.out, K1.out, K2.out, K3.out⟩ | exact ⟨f0, f1, f2, f3⟩ | go_keep)
            (first | (go_at_call 24; refine (HV.out _ HIX.out HIY.out ?_).mono ?_; (first | assumption | exact Ext.refl _ | exact (Ext.refl _).drew); rintro e w3 ⟨rfl, q0, qG⟩; have f0 := qG.keeps K0.out; have f1 := qG.keeps K1.out; have f2 := qG.keeps K2.out; have f3 := qG.keeps K3.out))
          all_goals
            go_wp2_with fail
            go_roundw
            case rel => exact ⟨k + 1, hltr, by go_num, HX, hE.trans qG⟩
            case measure => simp [intOf]; omega
        | false =>
          rw [hb] at hcv
          have HV := Lib.hid hcv
          have HX := Lib.hid (HN1.out (hno hb))
          clear hcv hb hyes hno
          go_wp2_with fail
          go_region_held3 (fun w' => w'.cell? ⟨g, o + k * 2, none⟩ = some (.slice xa xn xc) ∧ w'.cell? ⟨g, o + k * 2 + 1, none⟩ = some (.slice xb xm xd) ∧ w'.cell? ⟨g2, o2 + k * 2, none⟩ = some (.slice ya yn yc) ∧ w'.cell? ⟨g2, o2 + k * 2 + 1, none⟩ = some (.slice yb ym yd)) (first | exact ⟨K0.out, K1.out, K2.out, K3.out⟩ | exact ⟨f0, f1, f2, f3⟩ | go_keep)
            (first | (go_at_call 24; refine (HV.out _ HIX.out HIY.out ?_).mono ?_; (first | assumption | exact Ext.refl _ | exact (Ext.refl _).drew); rintro e w3 ⟨rfl, q0, qG⟩; have f0 := qG.keeps K0.out; have f1 := qG.keeps K1.out; have f2 := qG.keeps K2.out; have f3 := qG.keeps K3.out))
          all_goals
            go_wp2_with fail
            try simp only [Exit.inBlock, Exit.then]
            go_ret
            exact ⟨ret_bool HX.out.symm, hE.trans qG⟩
      · have HR := Lib.hid (show srB (rows ps) (rows qs) = true by
          have h1 := HT.out
          rw [List.take_of_length_le (by rw [HLA.out]; omega), List.take_of_length_le (by rw [HLB.out]; omega)] at h1
          unfold srB
          simpa using h1)
        go_wp2_with fail
        go_ret
        exact ⟨ret_bool HR.out.symm, hE⟩
  · have hb : ((n : Int) == (m : Int)) = false := by simp; omega
    have hb2 : ¬ ((n : Int) = (m : Int)) := by omega
    have HV := Lib.hid (show srB (rows ps) (rows qs) = false by
      unfold srB
      simp only [decide_eq_false_iff_not]
      intro h
      have := congrArg List.length h
      rw [HLA.out, HLB.out] at this
      exact hnm this)
    go_enter Try.func11, Try.ntmps11
    go_wp2_with fail
    go_ret
    exact ⟨ret_bool HV.out.symm, Ext.refl _⟩
set_option maxHeartbeats 4000000 in
set_option maxRecDepth 100000 in
theorem mult_ref (ps : List P) (vl : List V) (v vv : Value) (w : World) (ha : RdG w v ps) (ia : RdAll w ps) (hv : RdG w vv vl) :
    Calls Try.prog 19 #[v, vv] w fun e w' => e = .returned (.int .i64 (cnt (rows ps) vl : Nat)) ∧ Ext w w' := by
  obtain ⟨ad, cap, rfl, h1, h2⟩ := ha.shape
  obtain ⟨bd, bcap, rfl, i1, i2⟩ := hv.shape
  have HA := Lib.hid ha
  have IA := Lib.hid ia
  have HB := Lib.hid hv
  clear ha ia hv
  obtain ⟨n, hn⟩ : ∃ n, n = ps.length := ⟨_, rfl⟩
  obtain ⟨m, hm⟩ : ∃ m, m = vl.length := ⟨_, rfl⟩
  have HN := Lib.hid hn
  rw [← hn] at h1 HA ⊢
  rw [← hm] at i1 HB ⊢
  clear hn hm
  unfold maxLen at h2 i2
  go_enter Try.func19, Try.ntmps19
  go_wp2_with fail
  go_loopw [5, 6] (MuR w (rows ps) vl) (fun _ i _ => n - (intOf i).toNat)
  case atStart => exact ⟨0, Nat.zero_le _, rfl, by simp [cnt], Ext.refl _⟩
  case round =>
    obtain ⟨k, hk, rfl, rfl, hE⟩ := hrel
    rw [rows_len] at hk
    have hkn : k ≤ n := by rw [HN.out]; exact hk
    have hcb : cnt ((rows ps).take k) vl ≤ k := Nat.le_trans (cnt_le _ _) (by rw [List.length_take]; exact Nat.min_le_left _ _)
    by_cases hlt : k < n
    · have hlt' : k < ps.length := by rw [← HN.out]; exact hlt
      have hst := cnt_step (rows ps) k (by rw [rows_len]; exact hlt') vl
      rw [rows_at ps k hlt'] at hst
      obtain ⟨g, o, rfl, c0', c1'⟩ := rd_P HA.out k hlt'
      have c0 := hE.keeps c0'
      have c1 := hE.keeps c1'
      have hix := IA.out ps[k] (List.getElem_mem _)
      have hi0 : (0 : Int) ≤ (k : Int) := Int.natCast_nonneg _
      have hi1 : (k : Int) < (n : Int) := by omega
      clear c0' c1'
      generalize ps[k] = x at *
      obtain ⟨⟨xa, xn, xc, xb, xm, xd⟩, xr⟩ := x
      simp only [Hd.x, Hd.y] at c0 c1 hst
      have hcv := fun w2 (hg : Ext w w2) => crowsG_ref xr.v vl _ _ w2 (hix.1.ext hg) (HB.out.ext hg)
      clear hix
      simp only [Hd.x] at hcv
      by_cases hz : xr.v = vl
      · rw [if_pos hz] at hst
        have HST := Lib.hid hst
        have hc0 : cmpR xr.v vl = 0 := (cr_ord.zero _ _).2 hz
        rw [hc0] at hcv
        have HV := Lib.hid hcv
        clear hst hcv hz hc0
        generalize cnt ((rows ps).take k) vl = c at *
        go_wp2_with fail
        refine (HV.out _ hE).mono ?_; rintro e w1 ⟨rfl, hg⟩
        go_wp2_with fail
        go_roundw
        case rel => exact ⟨k + 1, by rw [rows_len]; exact hlt', by go_num, by rw [HST.out]; go_num, hE.trans hg⟩
        case measure => simp [intOf]; omega
      · rw [if_neg hz] at hst
        have HST := Lib.hid hst
        have hz0 : ¬ cmpR xr.v vl = 0 := fun e => hz ((cr_ord.zero _ _).1 e)
        have hz1 : (cmpR xr.v vl == 0) = false := by simpa using hz0
        have HV := Lib.hid hcv
        clear hst hcv hz
        generalize cnt ((rows ps).take k) vl = c at *
        go_wp2_with fail
        refine (HV.out _ hE).mono ?_; rintro e w1 ⟨rfl, hg⟩
        go_wp2_with fail
        go_roundw
        case rel => exact ⟨k + 1, by rw [rows_len]; exact hlt', by go_num, by rw [HST.out]; rfl, hE.trans hg⟩
        case measure => simp [intOf]; omega
    · have hall : (rows ps).take k = rows ps := by rw [List.take_of_length_le]; rw [rows_len, ← HN.out]; omega
      have HC := Lib.hid (show (cnt ((rows ps).take k) vl : Int) = (cnt (rows ps) vl : Int) by rw [hall])
      clear hall
      generalize cnt ((rows ps).take k) vl = c at hcb HC ⊢
      go_wp2_with fail
      go_ret
      exact ⟨ret_int HC.out, hE⟩
end Go.Proofs.Ytohpmbabegpefaa
