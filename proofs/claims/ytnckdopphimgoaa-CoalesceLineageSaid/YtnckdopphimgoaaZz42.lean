/- The reference's SameTuples. -/
import Derived.Test.YtnckdopphimgoaaZz20
import Derived.Test.YtnckdopphimgoaaZz41
namespace Go.Proofs.Ytnckdopphimgoaa
open Go.ChangeShapes Go.WideShapes Go.ChangeAt Go.RowKit

set_option maxHeartbeats 8000000 in
set_option maxRecDepth 100000 in
theorem sameT_ref (ps qs : List TP) (va vb : Value) (w : World) (ha : RdG w va ps) (hb : RdG w vb qs) (ia : RdTs w ps) (ib : RdTs w qs) :
    Calls Try.prog 9 #[va, vb] w fun e w' => e = .returned (.bool (tuB (tus ps) (tus qs))) ∧ Ext w w' := by
  obtain ⟨ad, cap, rfl, h1, h2⟩ := ha.shape
  obtain ⟨bd, bcap, rfl, i1, i2⟩ := hb.shape
  have HA := Lib.hid ha
  have HB := Lib.hid hb
  have IA := Lib.hid ia
  have IB := Lib.hid ib
  clear ha hb ia ib
  obtain ⟨n, hn⟩ : ∃ n, n = ps.length := ⟨_, rfl⟩
  obtain ⟨m, hm⟩ : ∃ m, m = qs.length := ⟨_, rfl⟩
  have HN := Lib.hid hn
  have HM := Lib.hid hm
  rw [← hn] at h1 HA ⊢
  rw [← hm] at i1 HB ⊢
  clear hn hm
  have HLA := Lib.hid (show (tus ps).length = n by rw [tus_len, HN.out])
  have HLB := Lib.hid (show (tus qs).length = m by rw [tus_len, HM.out])
  unfold maxLen at h2 i2
  by_cases hnm : n = m
  · subst hnm
    go_enter Try.func9, Try.ntmps9
    go_wp2_with fail
    go_loopw [5] (EqfR w (tus ps) (tus qs)) (fun i _ => n - (intOf i).toNat)
    case atStart => exact ⟨0, Nat.zero_le _, rfl, Lib.hid (by simp), Ext.refl _⟩
    case round =>
      obtain ⟨k, hk, rfl, HT, hE⟩ := hrel
      have hkn : k ≤ n := by rw [← HLA.out]; exact hk
      by_cases hlt : k < n
      · have hlt' : k < ps.length := by rw [← HN.out]; exact hlt
        have hlt2' : k < qs.length := by rw [← HM.out]; exact hlt
        have hltr : k < (tus ps).length := by rw [tus_len]; exact hlt'
        have hltr2 : k < (tus qs).length := by rw [tus_len]; exact hlt2'
        obtain ⟨g, o, rfl, c0', c1', c2', c3'⟩ := rd_T HA.out k hlt'
        obtain ⟨g2, o2, rfl, d0', d1', d2', d3'⟩ := rd_T HB.out k hlt2'
        have c0 := hE.keeps c0'
        have c1 := hE.keeps c1'
        have c2 := hE.keeps c2'
        have c3 := hE.keeps c3'
        have d0 := hE.keeps d0'
        have d1 := hE.keeps d1'
        have d2 := hE.keeps d2'
        have d3 := hE.keeps d3'
        have hix := (IA.out ps[k] (List.getElem_mem _)).ext hE
        have hiy := (IB.out qs[k] (List.getElem_mem _)).ext hE
        have HN1 := Lib.hid (@tu_no (tus ps) (tus qs) k hltr hltr2)
        have HN2 := Lib.hid (@tuB_next (tus ps) (tus qs) k hltr hltr2 HT.out)
        rw [tus_at ps k hlt', tus_at qs k hlt2'] at HN1 HN2
        have hi0 : (0 : Int) ≤ (k : Int) := Int.natCast_nonneg _
        have hi1 : (k : Int) < (n : Int) := by omega
        have hr1 := fun w2 => row_ref ps[k] w2
        have hr2 := fun w2 => row_ref qs[k] w2
        have hcv := fun w2 (hg : Ext wr w2) => sameRowE wr ps[k].row qs[k].row w2 hix.row hiy.row hg
        clear c0' c1' c2' c3' d0' d1' d2' d3' hix hiy
        generalize ps[k] = x at *
        generalize qs[k] = y at *
        have hyes : sameB x.r y.r = true → x.a = y.a → x.b = y.b → x.tu = y.tu := by unfold sameB; intro h1 h2 h3; have h1 : x.r = y.r := (by simpa using h1); rw [Tu.mk.injEq]; exact ⟨h1, h2, h3⟩
        have hno : sameB x.r y.r = false → x.tu ≠ y.tu := by unfold sameB; intro h1 h2; rw [Tu.mk.injEq] at h2; simp at h1; exact h1 h2.1
        have hno2 : ¬ (x.a = y.a ∧ x.b = y.b) → x.tu ≠ y.tu := by intro h1 h2; rw [Tu.mk.injEq] at h2; exact h1 h2.2
        obtain ⟨⟨xa, xn, xc, xb, xm, xd⟩, xr, pa, pb⟩ := x
        obtain ⟨⟨ya, yn, yc, yb, ym, yd⟩, yr, qa, qb⟩ := y
        simp only [Hd.x, Hd.y, tv] at c0 c1 c2 c3 d0 d1 d2 d3 hcv hr1 hr2 hyes hno hno2
        by_cases he : pa = qa ∧ pb = qb
        · obtain ⟨rfl, rfl⟩ := he
          have HR1 := Lib.hid hr1
          have HR2 := Lib.hid hr2
          have K0 := Lib.hid c0
          have K1 := Lib.hid c1
          have K2 := Lib.hid c2
          have K3 := Lib.hid c3
          have L0 := Lib.hid d0
          have L1 := Lib.hid d1
          have L2 := Lib.hid d2
          have L3 := Lib.hid d3
          clear hr1 hr2 c0 c1 c2 c3 d0 d1 d2 d3 hno2
          have F1 : True := trivial
          cases hb : sameB xr yr with
          | true =>
            rw [hb] at hcv
            have HV := Lib.hid hcv
            have HX := Lib.hid (HN2.out (hyes hb rfl rfl))
            clear hcv hb hyes hno
            go_wp2_with fail
            go_region_held3 (fun w' => w'.cell? ⟨g, o + k * 4, none⟩ = some (.slice xa xn xc) ∧ w'.cell? ⟨g, o + k * 4 + 1, none⟩ = some (.int .i64 pa) ∧ w'.cell? ⟨g, o + k * 4 + 2, none⟩ = some (.int .i64 pb) ∧ w'.cell? ⟨g, o + k * 4 + 3, none⟩ = some (.slice xb xm xd) ∧ w'.cell? ⟨g2, o2 + k * 4, none⟩ = some (.slice ya yn yc) ∧ w'.cell? ⟨g2, o2 + k * 4 + 1, none⟩ = some (.int .i64 pa) ∧ w'.cell? ⟨g2, o2 + k * 4 + 2, none⟩ = some (.int .i64 pb) ∧ w'.cell? ⟨g2, o2 + k * 4 + 3, none⟩ = some (.slice yb ym yd)) (first | exact ⟨K0.out, K1.out, K2.out, K3.out, L0.out, L1.out, L2.out, L3.out⟩ | exact S3.out | exact S4.out | exact S5.out | go_keep)
              (first | (clear F1; go_at_call 16; refine (HR1.out _).mono ?_; rintro e w3 ⟨rfl, hg3⟩; have e3 : Ext wr w3 := ⟨hg3.ext.1, hg3.ext.2.1, hg3.ext.2.2⟩; have S3 := Lib.hid (And.intro (e3.keeps K0.out) (And.intro (e3.keeps K1.out) (And.intro (e3.keeps K2.out) (And.intro (e3.keeps K3.out) (And.intro (e3.keeps L0.out) (And.intro (e3.keeps L1.out) (And.intro (e3.keeps L2.out) (e3.keeps L3.out)))))))); clear hg3) | (go_at_call 16; refine (HR2.out _).mono ?_; rintro e w4 ⟨rfl, hg4⟩; have e4 : Ext wr w4 := (show Ext wr w4 from e3.trans ⟨hg4.ext.1, hg4.ext.2.1, hg4.ext.2.2⟩); have S4 := Lib.hid (And.intro (e4.keeps K0.out) (And.intro (e4.keeps K1.out) (And.intro (e4.keeps K2.out) (And.intro (e4.keeps K3.out) (And.intro (e4.keeps L0.out) (And.intro (e4.keeps L1.out) (And.intro (e4.keeps L2.out) (e4.keeps L3.out)))))))); clear hg4) | (go_at_call 15; refine (HV.out _ ?_).mono ?_; (first | exact e4 | exact e4.drew); rintro e w5 ⟨rfl, q0, qG⟩; have S5 := Lib.hid (And.intro (qG.keeps K0.out) (And.intro (qG.keeps K1.out) (And.intro (qG.keeps K2.out) (And.intro (qG.keeps K3.out) (And.intro (qG.keeps L0.out) (And.intro (qG.keeps L1.out) (And.intro (qG.keeps L2.out) (qG.keeps L3.out)))))))); clear q0))
            all_goals
              go_wp2_with fail
              go_roundw
              case rel => exact ⟨k + 1, hltr, by go_num, HX, hE.trans qG⟩
              case measure => simp [intOf]; omega
          | false =>
            rw [hb] at hcv
            have HV := Lib.hid hcv
            have HX := Lib.hid (HN1.out (hno hb))
            clear hcv hb hyes hno
            go_wp2_with fail
            go_region_held3 (fun w' => w'.cell? ⟨g, o + k * 4, none⟩ = some (.slice xa xn xc) ∧ w'.cell? ⟨g, o + k * 4 + 1, none⟩ = some (.int .i64 pa) ∧ w'.cell? ⟨g, o + k * 4 + 2, none⟩ = some (.int .i64 pb) ∧ w'.cell? ⟨g, o + k * 4 + 3, none⟩ = some (.slice xb xm xd) ∧ w'.cell? ⟨g2, o2 + k * 4, none⟩ = some (.slice ya yn yc) ∧ w'.cell? ⟨g2, o2 + k * 4 + 1, none⟩ = some (.int .i64 pa) ∧ w'.cell? ⟨g2, o2 + k * 4 + 2, none⟩ = some (.int .i64 pb) ∧ w'.cell? ⟨g2, o2 + k * 4 + 3, none⟩ = some (.slice yb ym yd)) (first | exact ⟨K0.out, K1.out, K2.out, K3.out, L0.out, L1.out, L2.out, L3.out⟩ | exact S3.out | exact S4.out | exact S5.out | go_keep)
              (first | (clear F1; go_at_call 16; refine (HR1.out _).mono ?_; rintro e w3 ⟨rfl, hg3⟩; have e3 : Ext wr w3 := ⟨hg3.ext.1, hg3.ext.2.1, hg3.ext.2.2⟩; have S3 := Lib.hid (And.intro (e3.keeps K0.out) (And.intro (e3.keeps K1.out) (And.intro (e3.keeps K2.out) (And.intro (e3.keeps K3.out) (And.intro (e3.keeps L0.out) (And.intro (e3.keeps L1.out) (And.intro (e3.keeps L2.out) (e3.keeps L3.out)))))))); clear hg3) | (go_at_call 16; refine (HR2.out _).mono ?_; rintro e w4 ⟨rfl, hg4⟩; have e4 : Ext wr w4 := (show Ext wr w4 from e3.trans ⟨hg4.ext.1, hg4.ext.2.1, hg4.ext.2.2⟩); have S4 := Lib.hid (And.intro (e4.keeps K0.out) (And.intro (e4.keeps K1.out) (And.intro (e4.keeps K2.out) (And.intro (e4.keeps K3.out) (And.intro (e4.keeps L0.out) (And.intro (e4.keeps L1.out) (And.intro (e4.keeps L2.out) (e4.keeps L3.out)))))))); clear hg4) | (go_at_call 15; refine (HV.out _ ?_).mono ?_; (first | exact e4 | exact e4.drew); rintro e w5 ⟨rfl, q0, qG⟩; have S5 := Lib.hid (And.intro (qG.keeps K0.out) (And.intro (qG.keeps K1.out) (And.intro (qG.keeps K2.out) (And.intro (qG.keeps K3.out) (And.intro (qG.keeps L0.out) (And.intro (qG.keeps L1.out) (And.intro (qG.keeps L2.out) (qG.keeps L3.out)))))))); clear q0))
            all_goals
              go_wp2_with fail
              try simp only [Exit.inBlock, Exit.then]
              go_ret
              exact ⟨ret_bool HX.out.symm, hE.trans qG⟩
        · have HX := Lib.hid (HN1.out (hno2 he))
          clear hyes hno hno2 hcv hr1 hr2
          by_cases h1 : pa = qa
          · subst h1
            have h2 : ¬ pb = qb := fun e => he ⟨rfl, e⟩
            go_wp2_with fail
            go_quiet (fail)
            go_wp2_with fail
            try simp only [Exit.inBlock, Exit.then]
            go_ret
            exact ⟨ret_bool HX.out.symm, hE⟩
          · go_wp2_with fail
            go_quiet (fail)
            go_wp2_with fail
            try simp only [Exit.inBlock, Exit.then]
            go_ret
            exact ⟨ret_bool HX.out.symm, hE⟩
      · have HR := Lib.hid (tu_end (by rw [HLA.out]; omega) (by rw [HLB.out]; omega) HT.out)
        go_wp2_with fail
        go_ret
        exact ⟨ret_bool HR.out.symm, hE⟩
  · have hb : ((n : Int) == (m : Int)) = false := by simp; omega
    have hb2 : ¬ ((n : Int) = (m : Int)) := by omega
    have HV := Lib.hid (show tuB (tus ps) (tus qs) = false from tu_len (by rw [HLA.out, HLB.out]; exact hnm))
    go_enter Try.func9, Try.ntmps9
    go_wp2_with fail
    go_ret
    exact ⟨ret_bool HV.out.symm, Ext.refl _⟩
end Go.Proofs.Ytnckdopphimgoaa
/- The laws' FewTuples. -/
namespace Go.Proofs.Ytnckdopphimgoaa
open Go.ChangeShapes Go.WideShapes Go.ChangeAt Go.RowKit

def FewT (ps : List TP) (k : Int) : Prop := (ps.length : Int) ≤ k ∧ ∀ p ∈ ps, p.r.v.length ≤ 6 ∧ p.r.t.length ≤ 6
def FwR (w : World) (ps : List TP) (i : Value) (wr : World) : Prop := ∃ t : Nat, t ≤ ps.length ∧ i = .int .i64 t ∧ Hid (∀ (j : Nat) (h : j < ps.length), j < t → ps[j].r.v.length ≤ 6 ∧ ps[j].r.t.length ≤ 6) ∧ w = wr
theorem fw_next {ps : List TP} {t : Nat} (ht : t < ps.length) (h : ∀ (j : Nat) (h : j < ps.length), j < t → ps[j].r.v.length ≤ 6 ∧ ps[j].r.t.length ≤ 6) (h2 : ps[t].r.v.length ≤ 6 ∧ ps[t].r.t.length ≤ 6) : ∀ (j : Nat) (h : j < ps.length), j < t + 1 → ps[j].r.v.length ≤ 6 ∧ ps[j].r.t.length ≤ 6 := fun j hj hlt => by
  by_cases e : j = t
  · subst e; exact h2
  · exact h j hj (by omega)
theorem fw_end {ps : List TP} (h : ∀ (j : Nat) (h : j < ps.length), j < ps.length → ps[j].r.v.length ≤ 6 ∧ ps[j].r.t.length ≤ 6) : ∀ p ∈ ps, p.r.v.length ≤ 6 ∧ p.r.t.length ≤ 6 := fun p hp => by
  obtain ⟨j, hj, rfl⟩ := List.mem_iff_getElem.1 hp
  exact h j hj hj
def FwQ (ps : List TP) (k : Int) (w : World) (e : Ending) (w' : World) : Prop := ∃ b, e = .returned (.bool b) ∧ (b = true → FewT ps k) ∧ w = w'
end Go.Proofs.Ytnckdopphimgoaa
