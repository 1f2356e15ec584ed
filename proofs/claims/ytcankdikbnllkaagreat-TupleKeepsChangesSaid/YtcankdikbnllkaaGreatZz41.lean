/- The reference's SameTuples. -/
import Derived.Test.YtcankdikbnllkaaGreatZz30
import Derived.Test.YtcankdikbnllkaaGreatZz34
import Derived.Test.YtcankdikbnllkaaGreatZz39
import Derived.Test.YtcankdikbnllkaaGreatZz40
namespace Go.Proofs.YtcankdikbnllkaaGreat
open Go.ChangeShapes Go.WideShapes Go.ChangeAt Go.RowKit

set_option maxHeartbeats 8000000 in
set_option maxRecDepth 100000 in
theorem sameT_ref (ps qs : List TP) (va vb : Value) (w : World) (ha : RdG w va ps) (hb : RdG w vb qs) (ia : RdTs w ps) (ib : RdTs w qs) :
    Calls Tryz.prog 21 #[va, vb] w fun e w' => e = .returned (.bool (tuB (tus ps) (tus qs))) ∧ Ext w w' := by
  obtain ⟨ad, cap, rfl, h1, h2⟩ := ha.shape
  obtain ⟨bd, bcap, rfl, i1, i2⟩ := hb.shape
  have HA := Lib.hid ha
  have HB := Lib.hid hb
  have IA := Lib.hid ia
  have IB := Lib.hid ib
  clear ha hb ia ib
  obtain ⟨n, hn⟩ : ∃ n, n = ps.length := ⟨_, rfl⟩
  obtain ⟨m, hm⟩ : ∃ m, m = qs.length := ⟨_, rfl⟩
  have HN := Lib.hid hn
  have HM := Lib.hid hm
  rw [← hn] at h1 HA ⊢
  rw [← hm] at i1 HB ⊢
  clear hn hm
  have HLA := Lib.hid (show (tus ps).length = n by rw [tus_len, HN.out])
  have HLB := Lib.hid (show (tus qs).length = m by rw [tus_len, HM.out])
  unfold maxLen at h2 i2
  by_cases hnm : n = m
  · subst hnm
    go_enter Tryz.func21, Tryz.ntmps21
    go_wp2_with fail
    go_loopw [5] (EqfR w (tus ps) (tus qs)) (fun i _ => n - (intOf i).toNat)
    case atStart => exact ⟨0, Nat.zero_le _, rfl, Lib.hid (by simp), Ext.refl _⟩
    case round =>
      obtain ⟨k, hk, rfl, HT, hE⟩ := hrel
      have hkn : k ≤ n := by rw [← HLA.out]; exact hk
      by_cases hlt : k < n
      · have hlt' : k < ps.length := by rw [← HN.out]; exact hlt
        have hlt2' : k < qs.length := by rw [← HM.out]; exact hlt
        have hltr : k < (tus ps).length := by rw [tus_len]; exact hlt'
        have hltr2 : k < (tus qs).length := by rw [tus_len]; exact hlt2'
        obtain ⟨g, o, rfl, c0', c1', c2', c3'⟩ := rd_T HA.out k hlt'
        obtain ⟨g2, o2, rfl, d0', d1', d2', d3'⟩ := rd_T HB.out k hlt2'
        have c0 := hE.keeps c0'
        have c1 := hE.keeps c1'
        have c2 := hE.keeps c2'
        have c3 := hE.keeps c3'
        have d0 := hE.keeps d0'
        have d1 := hE.keeps d1'
        have d2 := hE.keeps d2'
        have d3 := hE.keeps d3'
        have hix := (IA.out ps[k] (List.getElem_mem _)).ext hE
        have hiy := (IB.out qs[k] (List.getElem_mem _)).ext hE
        have HN1 := Lib.hid (@tu_no (tus ps) (tus qs) k hltr hltr2)
        have HN2 := Lib.hid (@tuB_next (tus ps) (tus qs) k hltr hltr2 HT.out)
        rw [tus_at ps k hlt', tus_at qs k hlt2'] at HN1 HN2
        have hi0 : (0 : Int) ≤ (k : Int) := Int.natCast_nonneg _
        have hi1 : (k : Int) < (n : Int) := by omega
        have hr1 := fun w2 => row_ref ps[k] w2
        have hr2 := fun w2 => row_ref qs[k] w2
        have hcv := fun w2 (hg : Ext wr w2) => sameRowE wr ps[k].row qs[k].row w2 hix.row hiy.row hg
        clear c0' c1' c2' c3' d0' d1' d2' d3' hix hiy
        generalize ps[k] = x at *
        generalize qs[k] = y at *
        have hyes : sameB x.r y.r = true → x.a = y.a → x.b = y.b → x.tu = y.tu := by unfold sameB; intro h1 h2 h3; have h1 : x.r = y.r := (by simpa using h1); rw [Tu.mk.injEq]; exact ⟨h1, h2, h3⟩
        have hno : sameB x.r y.r = false → x.tu ≠ y.tu := by unfold sameB; intro h1 h2; rw [Tu.mk.injEq] at h2; simp at h1; exact h1 h2.1
        have hno2 : ¬ (x.a = y.a ∧ x.b = y.b) → x.tu ≠ y.tu := by intro h1 h2; rw [Tu.mk.injEq] at h2; exact h1 h2.2
        obtain ⟨⟨xa, xn, xc, xb, xm, xd⟩, xr, pa, pb⟩ := x
        obtain ⟨⟨ya, yn, yc, yb, ym, yd⟩, yr, qa, qb⟩ := y
        simp only [Hd.x, Hd.y, tv] at c0 c1 c2 c3 d0 d1 d2 d3 hcv hr1 hr2 hyes hno hno2
        by_cases he : pa = qa ∧ pb = qb
        · obtain ⟨rfl, rfl⟩ := he
          have HR1 := Lib.hid hr1
          have HR2 := Lib.hid hr2
          have K0 := Lib.hid c0
          have K1 := Lib.hid c1
          have K2 := Lib.hid c2
          have K3 := Lib.hid c3
          have L0 := Lib.hid d0
          have L1 := Lib.hid d1
          have L2 := Lib.hid d2
          have L3 := Lib.hid d3
          clear hr1 hr2 c0 c1 c2 c3 d0 d1 d2 d3 hno2
          have F1 : True := trivial
          cases hb : sameB xr yr with
          | true =>
            rw [hb] at hcv
            have HV := Lib.hid hcv
            have HX := Lib.hid (HN2.out (hyes hb rfl rfl))
            clear hcv hb hyes hno
            go_wp2_with fail
            go_region_held3 (fun w' => w'.cell? ⟨g, o + k * 4, none⟩ = some (.slice xa xn xc) ∧ w'.cell? ⟨g, o + k * 4 + 1, none⟩ = some (.int .i64 pa) ∧ w'.cell? ⟨g, o + k * 4 + 2, none⟩ = some (.int .i64 pb) ∧ w'.cell? ⟨g, o + k * 4 + 3, none⟩ = some (.slice xb xm xd) ∧ w'.cell? ⟨g2, o2 + k * 4, none⟩ = some (.slice ya yn yc) ∧ w'.cell? ⟨g2, o2 + k * 4 + 1, none⟩ = some (.int .i64 pa) ∧ w'.cell? ⟨g2, o2 + k * 4 + 2, none⟩ = some (.int .i64 pb) ∧ w'.cell? ⟨g2, o2 + k * 4 + 3, none⟩ = some (.slice yb ym yd)) (first | exact ⟨K0.out, K1.out, K2.out, K3.out, L0.out, L1.out, L2.out, L3.out⟩ | exact S3.out | exact S4.out | exact S5.out | go_keep)
              (first | (clear F1; go_at_call 47; refine (HR1.out _).mono ?_; rintro e w3 ⟨rfl, hg3⟩; have e3 : Ext wr w3 := ⟨hg3.ext.1, hg3.ext.2.1, hg3.ext.2.2⟩; have S3 := Lib.hid (And.intro (e3.keeps K0.out) (And.intro (e3.keeps K1.out) (And.intro (e3.keeps K2.out) (And.intro (e3.keeps K3.out) (And.intro (e3.keeps L0.out) (And.intro (e3.keeps L1.out) (And.intro (e3.keeps L2.out) (e3.keeps L3.out)))))))); clear hg3) | (go_at_call 47; refine (HR2.out _).mono ?_; rintro e w4 ⟨rfl, hg4⟩; have e4 : Ext wr w4 := (show Ext wr w4 from e3.trans ⟨hg4.ext.1, hg4.ext.2.1, hg4.ext.2.2⟩); have S4 := Lib.hid (And.intro (e4.keeps K0.out) (And.intro (e4.keeps K1.out) (And.intro (e4.keeps K2.out) (And.intro (e4.keeps K3.out) (And.intro (e4.keeps L0.out) (And.intro (e4.keeps L1.out) (And.intro (e4.keeps L2.out) (e4.keeps L3.out)))))))); clear hg4) | (go_at_call 39; refine (HV.out _ ?_).mono ?_; (first | exact e4 | exact e4.drew); rintro e w5 ⟨rfl, q0, qG⟩; have S5 := Lib.hid (And.intro (qG.keeps K0.out) (And.intro (qG.keeps K1.out) (And.intro (qG.keeps K2.out) (And.intro (qG.keeps K3.out) (And.intro (qG.keeps L0.out) (And.intro (qG.keeps L1.out) (And.intro (qG.keeps L2.out) (qG.keeps L3.out)))))))); clear q0))
            all_goals
              go_wp2_with fail
              go_roundw
              case rel => exact ⟨k + 1, hltr, by go_num, HX, hE.trans qG⟩
              case measure => simp [intOf]; omega
          | false =>
            rw [hb] at hcv
            have HV := Lib.hid hcv
            have HX := Lib.hid (HN1.out (hno hb))
            clear hcv hb hyes hno
            go_wp2_with fail
            go_region_held3 (fun w' => w'.cell? ⟨g, o + k * 4, none⟩ = some (.slice xa xn xc) ∧ w'.cell? ⟨g, o + k * 4 + 1, none⟩ = some (.int .i64 pa) ∧ w'.cell? ⟨g, o + k * 4 + 2, none⟩ = some (.int .i64 pb) ∧ w'.cell? ⟨g, o + k * 4 + 3, none⟩ = some (.slice xb xm xd) ∧ w'.cell? ⟨g2, o2 + k * 4, none⟩ = some (.slice ya yn yc) ∧ w'.cell? ⟨g2, o2 + k * 4 + 1, none⟩ = some (.int .i64 pa) ∧ w'.cell? ⟨g2, o2 + k * 4 + 2, none⟩ = some (.int .i64 pb) ∧ w'.cell? ⟨g2, o2 + k * 4 + 3, none⟩ = some (.slice yb ym yd)) (first | exact ⟨K0.out, K1.out, K2.out, K3.out, L0.out, L1.out, L2.out, L3.out⟩ | exact S3.out | exact S4.out | exact S5.out | go_keep)
              (first | (clear F1; go_at_call 47; refine (HR1.out _).mono ?_; rintro e w3 ⟨rfl, hg3⟩; have e3 : Ext wr w3 := ⟨hg3.ext.1, hg3.ext.2.1, hg3.ext.2.2⟩; have S3 := Lib.hid (And.intro (e3.keeps K0.out) (And.intro (e3.keeps K1.out) (And.intro (e3.keeps K2.out) (And.intro (e3.keeps K3.out) (And.intro (e3.keeps L0.out) (And.intro (e3.keeps L1.out) (And.intro (e3.keeps L2.out) (e3.keeps L3.out)))))))); clear hg3) | (go_at_call 47; refine (HR2.out _).mono ?_; rintro e w4 ⟨rfl, hg4⟩; have e4 : Ext wr w4 := (show Ext wr w4 from e3.trans ⟨hg4.ext.1, hg4.ext.2.1, hg4.ext.2.2⟩); have S4 := Lib.hid (And.intro (e4.keeps K0.out) (And.intro (e4.keeps K1.out) (And.intro (e4.keeps K2.out) (And.intro (e4.keeps K3.out) (And.intro (e4.keeps L0.out) (And.intro (e4.keeps L1.out) (And.intro (e4.keeps L2.out) (e4.keeps L3.out)))))))); clear hg4) | (go_at_call 39; refine (HV.out _ ?_).mono ?_; (first | exact e4 | exact e4.drew); rintro e w5 ⟨rfl, q0, qG⟩; have S5 := Lib.hid (And.intro (qG.keeps K0.out) (And.intro (qG.keeps K1.out) (And.intro (qG.keeps K2.out) (And.intro (qG.keeps K3.out) (And.intro (qG.keeps L0.out) (And.intro (qG.keeps L1.out) (And.intro (qG.keeps L2.out) (qG.keeps L3.out)))))))); clear q0))
            all_goals
              go_wp2_with fail
              try simp only [Exit.inBlock, Exit.then]
              go_ret
              exact ⟨ret_bool HX.out.symm, hE.trans qG⟩
        · have HX := Lib.hid (HN1.out (hno2 he))
          clear hyes hno hno2 hcv hr1 hr2
          by_cases h1 : pa = qa
          · subst h1
            have h2 : ¬ pb = qb := fun e => he ⟨rfl, e⟩
            go_wp2_with fail
            go_quiet (fail)
            go_wp2_with fail
            try simp only [Exit.inBlock, Exit.then]
            go_ret
            exact ⟨ret_bool HX.out.symm, hE⟩
          · go_wp2_with fail
            go_quiet (fail)
            go_wp2_with fail
            try simp only [Exit.inBlock, Exit.then]
            go_ret
            exact ⟨ret_bool HX.out.symm, hE⟩
      · have HR := Lib.hid (tu_end (by rw [HLA.out]; omega) (by rw [HLB.out]; omega) HT.out)
        go_wp2_with fail
        go_ret
        exact ⟨ret_bool HR.out.symm, hE⟩
  · have hb : ((n : Int) == (m : Int)) = false := by simp; omega
    have hb2 : ¬ ((n : Int) = (m : Int)) := by omega
    have HV := Lib.hid (show tuB (tus ps) (tus qs) = false from tu_len (by rw [HLA.out, HLB.out]; exact hnm))
    go_enter Tryz.func21, Tryz.ntmps21
    go_wp2_with fail
    go_ret
    exact ⟨ret_bool HV.out.symm, Ext.refl _⟩
end Go.Proofs.YtcankdikbnllkaaGreat
/- The reference's Normalize. -/
namespace Go.Proofs.YtcankdikbnllkaaGreat
open Go.ChangeShapes Go.WideShapes Go.ChangeAt Go.RowKit

def SeenR (qs : List P) (k : Nat) (r : R) : Prop := ∃ x ∈ qs.take k, x.r = r
theorem seen_next {qs : List P} {k : Nat} (hk : k < qs.length) (r : R) : SeenR qs (k + 1) r ↔ (SeenR qs k r ∨ r = qs[k].r) := by
  unfold SeenR
  rw [List.take_succ_eq_append_getElem hk]
  constructor
  · rintro ⟨x, hx, e⟩
    rcases List.mem_append.1 hx with hx | hx
    · exact Or.inl ⟨x, hx, e⟩
    · rw [List.mem_singleton.1 hx] at e; exact Or.inr e.symm
  · rintro (⟨x, hx, e⟩ | e)
    · exact ⟨x, List.mem_append.2 (Or.inl hx), e⟩
    · exact ⟨_, List.mem_append.2 (Or.inr (List.mem_singleton.2 rfl)), e.symm⟩
theorem seen_same {qs : List P} {k : Nat} (hk : k + 1 < qs.length) (he : qs[k].r = qs[k + 1].r) (r : R) : SeenR qs (k + 1 + 1) r ↔ SeenR qs (k + 1) r := by
  rw [seen_next hk]
  constructor
  · rintro (h | h)
    · exact h
    · rw [seen_next (by omega)]; exact Or.inr (h.trans he.symm)
  · exact Or.inl
theorem seen_lt {qs : List P} (hs : Srtd (rows qs)) {k : Nat} (hk : k < qs.length) (hn : k = 0 ∨ ∃ h : k - 1 < qs.length, qs[k - 1].r ≠ qs[k].r) (r : R) (h : SeenR qs k r) : cmpW r qs[k].r < 0 := by
  obtain ⟨x, hx, rfl⟩ := h
  obtain ⟨j, hj, rfl⟩ := List.mem_iff_getElem.1 hx
  rw [List.length_take] at hj
  rw [List.getElem_take]
  have hs' : ∀ i j (hi : i < qs.length) (hj : j < qs.length), i < j → cmpW qs[i].r qs[j].r ≤ 0 := fun i j hi hj hij => by
    have := List.pairwise_iff_getElem.1 hs i j (by rw [rows_len]; exact hi) (by rw [rows_len]; exact hj) hij
    rwa [rows_at qs i hi, rows_at qs j hj] at this
  rcases hn with rfl | ⟨h1, h2⟩
  · omega
  · have h3 := hs' (k - 1) k h1 hk (by omega)
    have h4 : cmpW qs[k - 1].r qs[k].r ≠ 0 := fun e => h2 ((cw_ord.zero _ _).1 e)
    by_cases e : j = k - 1
    · subst e; omega
    · have h5 := hs' j (k - 1) (by omega) h1 (by omega)
      have h6 := cw_ord.le_trans h5 h3
      have h7 : cmpW (qs[j]'(by omega)).r qs[k].r ≠ 0 := fun e0 => by
        have e1 := (cw_ord.zero _ _).1 e0
        rw [e1] at h5
        have := cw_ord.swap qs[k - 1].r qs[k].r
        omega
      omega
def sameR (r : R) (p : TP) : Bool := decide (p.r = r)
theorem cov_group (ps : List TP) (r : R) (t : Int) : cov (prs (tus (ps.filter (sameR r)))) t = ats (tus ps) r t := by
  have : prs (tus (ps.filter (sameR r))) = per (tus ps) r := by
    unfold prs per tus
    rw [List.filter_map, List.map_map, List.map_map]
    rfl
  unfold ats; rw [this]
/-- what holds while the rows are worked off -/
structure NrI (ps : List TP) (qs : List P) (k : Nat) (N : List TP) : Prop where
  prt : Prt (ats (tus ps)) (SeenR qs k) (tus N)
  len : N.length ≤ k * (400 * 800)
theorem NrI.start (ps : List TP) (qs : List P) : NrI ps qs 0 [] := ⟨Prt.nil _ (fun _ ⟨_, hx, _⟩ => by simp at hx), Nat.zero_le _⟩
theorem NrI.same {ps : List TP} {qs : List P} {k : Nat} {N : List TP} (h : NrI ps qs (k + 1) N) (hk : k + 1 < qs.length) (he : qs[k].r = qs[k + 1].r) : NrI ps qs (k + 1 + 1) N :=
  ⟨h.prt.congS fun s => seen_same hk he s, Nat.le_trans h.len (Nat.mul_le_mul_right _ (Nat.le_succ _))⟩
abbrev mkH (x : P) (p : Int × Int) : TP := ⟨x.h, x.r, p.1, p.2⟩
theorem tus_mkH (x : P) (L : List (Int × Int)) : tus (L.map (mkH x)) = L.map (mkT x.r) := by unfold tus; rw [List.map_map]; rfl
theorem NrI.step {ps : List TP} {qs : List P} {k : Nat} {N : List TP} {L : List (Int × Int)} {x : P} (h : NrI ps qs k N) (hs : Srtd (rows qs)) (hk : k < qs.length) (hx : qs[k] = x) (hn : k = 0 ∨ ∃ h : k - 1 < qs.length, qs[k - 1].r ≠ qs[k].r) (hL : IsLv (cov (prs (tus (ps.filter (sameR x.r))))) L) (hl : L.length ≤ 400 * 800) : NrI ps qs (k + 1) (N ++ L.map (mkH x)) := by
  subst hx
  refine ⟨?_, ?_⟩
  · rw [tus_app, tus_mkH]
    exact h.prt.step (fun s hs' => seen_lt hs hk hn s hs') ⟨hL.srt, hL.lam, fun t => by rw [hL.cnt, cov_group]⟩ fun s => seen_next hk s
  · rw [List.length_append, List.length_map, Nat.succ_mul]
    have := h.len
    omega
theorem NrI.fin {ps : List TP} {qs : List P} {k : Nat} {N : List TP} (h : NrI ps qs k N) (hk : qs.length ≤ k) (hp : qs.Perm (ps.map TP.row)) : IsNf (ats (tus ps)) (tus N) := by
  refine h.prt.done fun r t hr => ats_none (fun y hy e => hr ?_) t
  obtain ⟨z, hz, rfl⟩ := List.mem_map.1 hy
  refine ⟨z.row, ?_, e⟩
  rw [List.take_of_length_le hk]
  exact hp.mem_iff.2 (List.mem_map.2 ⟨z, hz, rfl⟩)
def N1R (w : World) (ps : List TP) (u i : Value) (wr : World) : Prop := ∃ k : Nat, k ≤ ps.length ∧ i = .int .i64 k ∧ OwnG tP.e w wr u ((ps.take k).map TP.row)
def N2R (W : World) (ps : List TP) (qs : List P) (vo i : Value) (wr : World) : Prop := ∃ (k : Nat) (N : List TP), k ≤ qs.length ∧ i = .int .i64 k ∧ OwnG tT.e W wr vo N ∧ Hid (NrI ps qs k N) ∧ Hid (∀ p ∈ N, RdT W p)
def N3R (W : World) (ps : List TP) (r : R) (vo : Value) (N : List TP) (vg i : Value) (wr : World) : Prop := ∃ j : Nat, j ≤ ps.length ∧ i = .int .i64 j ∧ Duo tT.e tT.e W wr vo vg N ((ps.take j).filter (sameR r))
def N4R (W : World) (L : List (Int × Int)) (x : P) (N : List TP) (v6 vn i : Value) (wr : World) : Prop := ∃ k : Nat, k ≤ L.length ∧ i = .int .i64 k ∧ Duo tT.e tPe.e W wr vn v6 (N ++ (L.take k).map (mkH x)) L
def NzQ (ps : List TP) (w : World) (e : Ending) (w' : World) : Prop := ∃ v' qs, e = .returned v' ∧ RdG w' v' qs ∧ RdTs w' qs ∧ IsNf (ats (tus ps)) (tus qs) ∧ Ext w w'
end Go.Proofs.YtcankdikbnllkaaGreat
