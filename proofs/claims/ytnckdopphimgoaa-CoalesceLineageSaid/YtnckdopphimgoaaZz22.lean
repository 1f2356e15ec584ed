/- slices.Equal, of values and of ints; whether two tuples are the same, by coalesce. -/
import Derived.BigQuiet
import Derived.Test.YtnckdopphimgoaaZz19
import Derived.Test.YtnckdopphimgoaaZz20
import Derived.Test.YtnckdopphimgoaaZz21
namespace Go.Proofs.Ytnckdopphimgoaa
open Go.ChangeShapes Go.WideShapes Go.ChangeAt Go.RowKit Go.Sort

def eqL {α : Type} [DecidableEq α] (a b : List α) : Bool := decide (a = b)
theorem eqL_no {α : Type} [DecidableEq α] {a b : List α} {k : Nat} (ha : k < a.length) (hb : k < b.length) (h : a[k] ≠ b[k]) : eqL a b = false := by
  unfold eqL
  simp only [decide_eq_false_iff_not]
  intro e
  subst e
  exact h rfl
theorem eqL_next {α : Type} {a b : List α} {k : Nat} (ha : k < a.length) (hb : k < b.length) (e : a.take k = b.take k) (h : a[k] = b[k]) : a.take (k + 1) = b.take (k + 1) := by
  rw [List.take_succ_eq_append_getElem ha, List.take_succ_eq_append_getElem hb, e, h]
theorem eqL_len {α : Type} [DecidableEq α] {a b : List α} (h : a.length ≠ b.length) : eqL a b = false := by
  unfold eqL
  simp only [decide_eq_false_iff_not]
  intro e
  subst e
  exact h rfl
theorem eqL_end {α : Type} [DecidableEq α] {a b : List α} {k : Nat} (ha : a.length ≤ k) (hb : b.length ≤ k) (e : a.take k = b.take k) : eqL a b = true := by
  rw [List.take_of_length_le ha, List.take_of_length_le hb] at e
  unfold eqL; simpa using e
theorem gw_drewN {w X : World} (h : Gw w X) (n : Nat) : Gw w (X.drewN n) := h.trans ⟨n, #[], by rw [grow_empty]⟩
def EqlR {α : Type} (w : World) (a b : List α) (i : Value) (wr : World) : Prop := ∃ k : Nat, k ≤ a.length ∧ i = .int .i64 k ∧ Hid (a.take k = b.take k) ∧ Gw w wr
theorem sameT_three (x y : Tu) : sameT x y = (decide (x.a = y.a ∧ x.b = y.b) && (eqL x.r.v y.r.v && eqL x.r.t y.r.t)) := by
  obtain ⟨⟨xv, xt⟩, xa, xb⟩ := x
  obtain ⟨⟨yv, yt⟩, ya, yb⟩ := y
  unfold sameT eqL
  rw [Bool.eq_iff_iff]
  simp only [Bool.and_eq_true, decide_eq_true_eq, Tu.mk.injEq, R.mk.injEq]
  constructor
  · rintro ⟨⟨h1, h2⟩, h3, h4⟩; exact ⟨⟨h3, h4⟩, h1, h2⟩
  · rintro ⟨⟨h3, h4⟩, h1, h2⟩; exact ⟨⟨h1, h2⟩, h3, h4⟩
set_option maxHeartbeats 4000000 in
set_option maxRecDepth 100000 in
theorem eqV_gw (a b : List V) (va vb : Value) (w : World) (hra : RdG w va a) (hrb : RdG w vb b) : Calls Try.prog 33 #[va, vb] w fun e w' => e = .returned (.bool (eqL a b)) ∧ Gw w w' := by
  obtain ⟨ad, cap, rfl, h1, h2⟩ := hra.shape
  obtain ⟨bd, bcap, rfl, i1, i2⟩ := hrb.shape
  have H4 := Lib.hid hra
  have I4 := Lib.hid hrb
  clear hra hrb
  obtain ⟨n, hn⟩ : ∃ n, n = a.length := ⟨_, rfl⟩
  obtain ⟨m, hm⟩ : ∃ m, m = b.length := ⟨_, rfl⟩
  have HN := Lib.hid hn
  have HM := Lib.hid hm
  rw [← hn] at h1 H4 ⊢
  rw [← hm] at i1 I4 ⊢
  clear hn hm
  unfold maxLen at h2 i2
  by_cases hnm : n = m
  · subst hnm
    go_enter Try.func33, Try.ntmps33
    go_wp2_with fail
    go_loopw [13] (EqlR w a b) (fun i _ => n - (intOf i).toNat)
    case atStart => exact ⟨0, Nat.zero_le _, rfl, Lib.hid (by simp), Gw.refl _⟩
    case round =>
      obtain ⟨k, hk, rfl, HT, hE⟩ := hrel
      have hkn : k ≤ n := by rw [HN.out]; exact hk
      by_cases hlt : k < n
      · have hlt' : k < a.length := by rw [← HN.out]; exact hlt
        have hlt2' : k < b.length := by rw [← HM.out]; exact hlt
        obtain ⟨g, o, rfl, c0', c1', c2'⟩ := rd_V H4.out k hlt'
        obtain ⟨g2, o2, rfl, d0', d1', d2'⟩ := rd_V I4.out k hlt2'
        have c0 := hE.ext.keeps c0'
        have c1 := hE.ext.keeps c1'
        have c2 := hE.ext.keeps c2'
        have d0 := hE.ext.keeps d0'
        have d1 := hE.ext.keeps d1'
        have d2 := hE.ext.keeps d2'
        clear c0' c1' c2' d0' d1' d2'
        have HX := Lib.hid (@eqL_next _ a b k hlt' hlt2' HT.out)
        have HY := Lib.hid (@eqL_no _ _ a b k hlt' hlt2')
        have hi0 : (0 : Int) ≤ (k : Int) := Int.natCast_nonneg _
        have hi1 : (k : Int) < (n : Int) := by omega
        generalize a[k] = x at *
        generalize b[k] = y at *
        by_cases he : x = y
        · have HX2 := Lib.hid (HX.out he)
          subst he
          obtain ⟨xk, xn, xs⟩ := x
          clear HX HY
          simp only at c0 c1 c2 d0 d1 d2
          go_wp2_with fail
          go_quiet (fail)
          go_wp2_with fail
          go_roundw
          case rel => exact ⟨k + 1, hlt', by go_num, HX2, by first | exact hE | exact gw_drewN hE _⟩
          case measure => simp [intOf]; omega
        · have HF := Lib.hid (HY.out he)
          obtain ⟨xk, xn, xs⟩ := x
          obtain ⟨yk, yn, ys⟩ := y
          by_cases hk2 : xk = yk
          · subst hk2
            by_cases hn2 : xn = yn
            · subst hn2
              have hs2 : ¬ xs = ys := fun h => he (by rw [h])
              clear HX HY he
              simp only at c0 c1 c2 d0 d1 d2
              go_wp2_with fail
              go_quiet (fail)
              go_wp2_with fail
              all_goals
                go_ret
                exact ⟨ret_bool HF.out.symm, by first | exact hE | exact gw_drewN hE _⟩
            · clear HX HY he
              simp only at c0 c1 c2 d0 d1 d2
              go_wp2_with fail
              go_quiet (fail)
              go_wp2_with fail
              all_goals
                go_ret
                exact ⟨ret_bool HF.out.symm, by first | exact hE | exact gw_drewN hE _⟩
          · clear HX HY he
            simp only at c0 c1 c2 d0 d1 d2
            go_wp2_with fail
            go_quiet (fail)
            go_wp2_with fail
            all_goals
              go_ret
              exact ⟨ret_bool HF.out.symm, by first | exact hE | exact gw_drewN hE _⟩
      · have HR := Lib.hid (eqL_end (by have := HN.out; omega) (by have := HM.out; omega) HT.out)
        go_wp2_with fail
        go_ret
        exact ⟨ret_bool HR.out.symm, hE⟩
  · have hb : ((n : Int) == (m : Int)) = false := by simp; omega
    have hb2 : ¬ ((n : Int) = (m : Int)) := by omega
    have HV := Lib.hid (show eqL a b = false from eqL_len (by rw [← HN.out, ← HM.out]; exact hnm))
    go_enter Try.func33, Try.ntmps33
    go_wp2_with fail
    go_ret
    exact ⟨ret_bool HV.out.symm, Gw.refl _⟩
set_option maxHeartbeats 4000000 in
set_option maxRecDepth 100000 in
theorem eqI_gw (a b : List Int) (va vb : Value) (w : World) (hra : RdG w va a) (hrb : RdG w vb b) : Calls Try.prog 34 #[va, vb] w fun e w' => e = .returned (.bool (eqL a b)) ∧ Gw w w' := by
  obtain ⟨ad, cap, rfl, h1, h2⟩ := hra.shape
  obtain ⟨bd, bcap, rfl, i1, i2⟩ := hrb.shape
  have H4 := Lib.hid hra
  have I4 := Lib.hid hrb
  clear hra hrb
  obtain ⟨n, hn⟩ : ∃ n, n = a.length := ⟨_, rfl⟩
  obtain ⟨m, hm⟩ : ∃ m, m = b.length := ⟨_, rfl⟩
  have HN := Lib.hid hn
  have HM := Lib.hid hm
  rw [← hn] at h1 H4 ⊢
  rw [← hm] at i1 I4 ⊢
  clear hn hm
  unfold maxLen at h2 i2
  by_cases hnm : n = m
  · subst hnm
    go_enter Try.func34, Try.ntmps34
    go_wp2_with fail
    go_loopw [13] (EqlR w a b) (fun i _ => n - (intOf i).toNat)
    case atStart => exact ⟨0, Nat.zero_le _, rfl, Lib.hid (by simp), Gw.refl _⟩
    case round =>
      obtain ⟨k, hk, rfl, HT, hE⟩ := hrel
      have hkn : k ≤ n := by rw [HN.out]; exact hk
      by_cases hlt : k < n
      · have hlt' : k < a.length := by rw [← HN.out]; exact hlt
        have hlt2' : k < b.length := by rw [← HM.out]; exact hlt
        obtain ⟨g, o, rfl, c0'⟩ := rd_I H4.out k hlt'
        obtain ⟨g2, o2, rfl, d0'⟩ := rd_I I4.out k hlt2'
        have c0 := hE.ext.keeps c0'
        have d0 := hE.ext.keeps d0'
        clear c0' d0'
        have HX := Lib.hid (@eqL_next _ a b k hlt' hlt2' HT.out)
        have HY := Lib.hid (@eqL_no _ _ a b k hlt' hlt2')
        have hi0 : (0 : Int) ≤ (k : Int) := Int.natCast_nonneg _
        have hi1 : (k : Int) < (n : Int) := by omega
        generalize a[k] = x at *
        generalize b[k] = y at *
        by_cases he : x = y
        · have HX2 := Lib.hid (HX.out he)
          subst he
          clear HX HY
          go_wp2_with fail
          go_quiet (fail)
          go_wp2_with fail
          go_roundw
          case rel => exact ⟨k + 1, hlt', by go_num, HX2, by first | exact hE | exact gw_drewN hE _⟩
          case measure => simp [intOf]; omega
        · have HF := Lib.hid (HY.out he)
          clear HX HY
          go_wp2_with fail
          go_quiet (fail)
          go_wp2_with fail
          all_goals
            go_ret
            exact ⟨ret_bool HF.out.symm, by first | exact hE | exact gw_drewN hE _⟩
      · have HR := Lib.hid (eqL_end (by have := HN.out; omega) (by have := HM.out; omega) HT.out)
        go_wp2_with fail
        go_ret
        exact ⟨ret_bool HR.out.symm, hE⟩
  · have hb : ((n : Int) == (m : Int)) = false := by simp; omega
    have hb2 : ¬ ((n : Int) = (m : Int)) := by omega
    have HV := Lib.hid (show eqL a b = false from eqL_len (by rw [← HN.out, ← HM.out]; exact hnm))
    go_enter Try.func34, Try.ntmps34
    go_wp2_with fail
    go_ret
    exact ⟨ret_bool HV.out.symm, Gw.refl _⟩
set_option maxHeartbeats 4000000 in
set_option maxRecDepth 100000 in
theorem coSame_gw (p q : TP) (w : World) (hp : RdT w p) (hq : RdT w q) :
    Calls Try.prog 23 #[tv p, tv q] w fun e w' => e = .returned (.bool (sameT p.tu q.tu)) ∧ Gw w w' := by
  have HP := Lib.hid hp
  have HQ := Lib.hid hq
  clear hp hq
  have hc := fun w2 (h : Ext w w2) => eqV_gw p.r.v q.r.v p.h.x q.h.x w2 (HP.out.1.ext h) (HQ.out.1.ext h)
  have hd := fun w2 (h : Ext w w2) => eqI_gw p.r.t q.r.t p.h.y q.h.y w2 (HP.out.2.ext h) (HQ.out.2.ext h)
  have hS := sameT_three p.tu q.tu
  obtain ⟨⟨xa, xn, xc, xb, xm, xd⟩, xr, pa, pb⟩ := p
  obtain ⟨⟨ya, yn, yc, yb, ym, yd⟩, yr, qa, qb⟩ := q
  simp only [Hd.x, Hd.y] at hc hd hS
  clear HP HQ
  generalize sameT ⟨xr, pa, pb⟩ ⟨yr, qa, qb⟩ = bb at *
  generalize eqL xr.v yr.v = b1 at *
  generalize eqL xr.t yr.t = b2 at *
  by_cases he : pa = qa ∧ pb = qb
  · obtain ⟨rfl, rfl⟩ := he
    cases b1 with
    | false =>
      have HS := Lib.hid (show bb = false by simpa using hS)
      have HC := Lib.hid hc
      clear hS hc hd
      go_enter Try.func23, Try.ntmps23
      go_wp2_with fail
      refine (HC.out _ (gw2 _ _ _).ext).mono ?_; rintro e w1 ⟨rfl, hg⟩
      go_wp2_with fail
      go_ret
      exact ⟨ret_bool HS.out.symm, (gw2 _ _ _).trans hg⟩
    | true =>
      have HS := Lib.hid (show bb = b2 by simpa using hS)
      have HC := Lib.hid hc
      have HD := Lib.hid hd
      clear hS hc hd
      go_enter Try.func23, Try.ntmps23
      go_wp2_with fail
      refine (HC.out _ (gw2 _ _ _).ext).mono ?_; rintro e w1 ⟨rfl, hg⟩
      have HG := Lib.hid ((gw2 w _ _).trans hg)
      obtain ⟨_, _, _, B3⟩ := box4 w (.slice xa xn xc) (.int .i64 pa) (.int .i64 pb) (.slice xb xm xd) 31
      have C3 := (box4 (w.alloc (.cells #[.slice xa xn xc, .int .i64 pa, .int .i64 pb, .slice xb xm xd] 31)) (.slice ya yn yc) (.int .i64 pa) (.int .i64 pb) (.slice yb ym yd) 31).2.2.2
      rw [alsz] at C3
      have b3 := (((Ext.refl _).alloc _ _).trans hg.ext).keeps B3
      have c3 := hg.ext.keeps C3
      clear hg B3 C3
      go_wp2_with fail
      refine (HD.out _ HG.out.ext).mono ?_; rintro e w2 ⟨rfl, hg2⟩
      go_wp2_with fail
      go_ret
      exact ⟨ret_bool HS.out.symm, HG.out.trans hg2⟩
  · have HS := Lib.hid (show bb = false by rw [hS]; simp [he])
    clear hS hc hd
    go_enter Try.func23, Try.ntmps23
    go_wp2_with fail
    all_goals
      go_ret
      exact ⟨ret_bool HS.out.symm, gw2 _ _ _⟩
set_option maxHeartbeats 8000000 in
set_option maxRecDepth 100000 in
theorem eqf_co (ps qs : List TP) (va vb : Value) (w : World) (ha : RdG w va ps) (hb : RdG w vb qs) (ia : RdTs w ps) (ib : RdTs w qs) :
    Calls Try.prog 22 #[va, vb, .func (.func 23) #[] #[]] w fun e w' => e = .returned (.bool (tuB (tus ps) (tus qs))) ∧ Ext w w' := by
  obtain ⟨ad, cap, rfl, h1, h2⟩ := ha.shape
  obtain ⟨bd, bcap, rfl, i1, i2⟩ := hb.shape
  have HA := Lib.hid ha
  have HB := Lib.hid hb
  have IA := Lib.hid ia
  have IB := Lib.hid ib
  clear ha hb ia ib
  obtain ⟨n, hn⟩ : ∃ n, n = ps.length := ⟨_, rfl⟩
  obtain ⟨m, hm⟩ : ∃ m, m = qs.length := ⟨_, rfl⟩
  have HN := Lib.hid hn
  have HM := Lib.hid hm
  rw [← hn] at h1 HA ⊢
  rw [← hm] at i1 HB ⊢
  clear hn hm
  have HLA := Lib.hid (show (tus ps).length = n by rw [tus_len, HN.out])
  have HLB := Lib.hid (show (tus qs).length = m by rw [tus_len, HM.out])
  unfold maxLen at h2 i2
  by_cases hnm : n = m
  · subst hnm
    go_enter Try.func22, Try.ntmps22
    go_wp2_with fail
    go_loopw [17] (EqfR w (tus ps) (tus qs)) (fun i _ => n - (intOf i).toNat)
    case atStart => exact ⟨0, Nat.zero_le _, rfl, Lib.hid (by simp), Ext.refl _⟩
    case round =>
      obtain ⟨k, hk, rfl, HT, hE⟩ := hrel
      have hkn : k ≤ n := by rw [← HLA.out]; exact hk
      by_cases hlt : k < n
      · have hlt' : k < ps.length := by rw [← HN.out]; exact hlt
        have hlt2' : k < qs.length := by rw [← HM.out]; exact hlt
        have hltr : k < (tus ps).length := by rw [tus_len]; exact hlt'
        have hltr2 : k < (tus qs).length := by rw [tus_len]; exact hlt2'
        obtain ⟨g, o, rfl, c0', c1', c2', c3'⟩ := rd_T HA.out k hlt'
        obtain ⟨g2, o2, rfl, d0', d1', d2', d3'⟩ := rd_T HB.out k hlt2'
        have c0 := hE.keeps c0'
        have c1 := hE.keeps c1'
        have c2 := hE.keeps c2'
        have c3 := hE.keeps c3'
        have hix := IA.out ps[k] (List.getElem_mem _)
        have hiy := IB.out qs[k] (List.getElem_mem _)
        have HN1 := Lib.hid (@tu_no (tus ps) (tus qs) k hltr hltr2)
        have HN2 := Lib.hid (@tuB_next (tus ps) (tus qs) k hltr hltr2 HT.out)
        rw [tus_at ps k hlt', tus_at qs k hlt2'] at HN1 HN2
        have hi0 : (0 : Int) ≤ (k : Int) := Int.natCast_nonneg _
        have hi1 : (k : Int) < (n : Int) := by omega
        have hcv := fun w2 (hg : Ext w w2) => coSame_gw ps[k] qs[k] w2 (hix.ext hg) (hiy.ext hg)
        clear c0' c1' c2' c3' hix hiy
        generalize ps[k] = x at *
        generalize qs[k] = y at *
        have hyes : sameT x.tu y.tu = true → x.tu = y.tu := by unfold sameT; simp
        have hno : sameT x.tu y.tu = false → x.tu ≠ y.tu := by unfold sameT; simp
        obtain ⟨⟨xa, xn, xc, xb, xm, xd⟩, xr, pa, pb⟩ := x
        obtain ⟨⟨ya, yn, yc, yb, ym, yd⟩, yr, qa, qb⟩ := y
        simp only [Hd.x, Hd.y, tv] at c0 c1 c2 c3 d0' d1' d2' d3' hcv
        obtain ⟨B0, B1, B2, B3⟩ := box4 wr (.slice xa xn xc) (.int .i64 pa) (.int .i64 pb) (.slice xb xm xd) 31
        have EX : Ext wr (wr.alloc (.cells #[.slice xa xn xc, .int .i64 pa, .int .i64 pb, .slice xb xm xd] 31)) := (Ext.refl wr).alloc _ _
        have d0 := (hE.trans EX).keeps d0'
        have d1 := (hE.trans EX).keeps d1'
        have d2 := (hE.trans EX).keeps d2'
        have d3 := (hE.trans EX).keeps d3'
        clear d0' d1' d2' d3'
        cases hb : sameT ⟨xr, pa, pb⟩ ⟨yr, qa, qb⟩ with
        | true =>
          rw [hb] at hcv
          have HV := Lib.hid hcv
          have HX := Lib.hid (HN2.out (hyes hb))
          clear hcv hb hyes hno
          go_wp2_with fail
          refine (HV.out _ ((hE.trans EX).alloc _ _)).mono ?_; rintro e w1 ⟨rfl, hg⟩
          have hE1 := ((hE.trans EX).alloc _ _).trans hg.ext
          clear B0 B1 B2 B3 c0 c1 c2 c3 d0 d1 d2 d3 hg
          go_wp2_with fail
          go_roundw
          case rel => exact ⟨k + 1, hltr, by go_num, HX, hE1⟩
          case measure => simp [intOf]; omega
        | false =>
          rw [hb] at hcv
          have HV := Lib.hid hcv
          have HX := Lib.hid (HN1.out (hno hb))
          clear hcv hb hyes hno
          go_wp2_with fail
          refine (HV.out _ ((hE.trans EX).alloc _ _)).mono ?_; rintro e w1 ⟨rfl, hg⟩
          have hE1 := ((hE.trans EX).alloc _ _).trans hg.ext
          clear B0 B1 B2 B3 c0 c1 c2 c3 d0 d1 d2 d3 hg
          go_wp2_with fail
          try simp only [Exit.inBlock, Exit.then]
          go_ret
          exact ⟨ret_bool HX.out.symm, hE1⟩
      · have HR := Lib.hid (tu_end (by rw [HLA.out]; omega) (by rw [HLB.out]; omega) HT.out)
        go_wp2_with fail
        go_ret
        exact ⟨ret_bool HR.out.symm, hE⟩
  · have hb : ((n : Int) == (m : Int)) = false := by simp; omega
    have hb2 : ¬ ((n : Int) = (m : Int)) := by omega
    have HV := Lib.hid (show tuB (tus ps) (tus qs) = false from tu_len (by rw [HLA.out, HLB.out]; exact hnm))
    go_enter Try.func22, Try.ntmps22
    go_wp2_with fail
    go_ret
    exact ⟨ret_bool HV.out.symm, Ext.refl _⟩
end Go.Proofs.Ytnckdopphimgoaa
