/- The reference's CompareRows, CompareInts, Less and SameRow. -/
import Derived.Test.YtbplapkcleipiaaGreatDoorZz09
import Derived.Test.YtbplapkcleipiaaGreatDoorZz26
import Derived.Test.YtbplapkcleipiaaGreatDoorRows
import Derived.ProofKit
import Derived.LaidMore
import Derived.OpenShut
import Derived.Lib.SmallJoins
import Derived.Laws.IdiomArrays
namespace Go.Proofs.YtbplapkcleipiaaGreatDoor
open Go.ChangeShapes Go.WideShapes Go.ChangeAt Go.RowKit

/-- the reference's Compare over an elder world -/
theorem cmpRG (W0 : World) (a b : V) (w : World) (h : Ext W0 w) : Calls Tryz.prog 40 #[vv a, vv b] w fun e w' => e = .returned (.int .i64 (cmpV a b)) ∧ (∀ b o, b < W0.heap.size → w'.cell? ⟨b, o, none⟩ = W0.cell? ⟨b, o, none⟩) ∧ Ext W0 w' :=
  heldE W0 ((cmp_ref a b w).mono fun _ _ ⟨e, g⟩ => ⟨e, ext_of_grown g⟩) h
def ClR8 {α : Type} (w : World) (a b : List α) (i : Value) (wr : World) : Prop := ∃ k : Nat, k ≤ a.length ∧ k ≤ b.length ∧ i = .int .i64 k ∧ Hid (a.take k = b.take k) ∧ Ext w wr
set_option maxHeartbeats 4000000 in
set_option maxRecDepth 100000 in
theorem crowsG_ref (a b : List V) (va vb : Value) (w : World) (hra : RdG w va a) (hrb : RdG w vb b) : Calls Tryz.prog 22 #[va, vb] w fun e w' => e = .returned (.int .i64 (cmpR a b)) ∧ Ext w w' := by
  obtain ⟨ad, cap, rfl, h1, h2⟩ := hra.shape
  obtain ⟨bd, bcap, rfl, i1, i2⟩ := hrb.shape
  have H4 := Lib.hid hra
  have I4 := Lib.hid hrb
  clear hra hrb
  obtain ⟨n, hn⟩ : ∃ n, n = a.length := ⟨_, rfl⟩
  obtain ⟨m, hm⟩ : ∃ m, m = b.length := ⟨_, rfl⟩
  have HN := Lib.hid hn
  have HM := Lib.hid hm
  rw [← hn] at h1 H4 ⊢
  rw [← hm] at i1 I4 ⊢
  rw [cr_lex]
  clear hn hm
  unfold maxLen at h2 i2
  go_enter Tryz.func22, Tryz.ntmps22
  go_wp2_with fail
  go_loopw [5] (ClR8 w a b) (fun i _ => n - (intOf i).toNat)
  case atStart => exact ⟨0, Nat.zero_le _, Nat.zero_le _, rfl, Lib.hid (by simp), Ext.refl _⟩
  case round =>
    obtain ⟨k, hk, hkb, rfl, HT, hE⟩ := hrel
    have hkn : k ≤ n := by rw [HN.out]; exact hk
    have hkm : k ≤ m := by rw [HM.out]; exact hkb
    by_cases hex : k < n ∧ k < m
    · obtain ⟨hlt, hlt2⟩ := hex
      have hlt' : k < a.length := by rw [← HN.out]; exact hlt
      obtain ⟨g, o, rfl, c0', c1', c2'⟩ := rd_V H4.out k hlt'
      have hlt2' : k < b.length := by rw [← HM.out]; exact hlt2
      obtain ⟨g2, o2, rfl, d0', d1', d2'⟩ := rd_V I4.out k hlt2'
      have c0 := hE.keeps c0'
      have c1 := hE.keeps c1'
      have c2 := hE.keeps c2'
      have d0 := hE.keeps d0'
      have d1 := hE.keeps d1'
      have d2 := hE.keeps d2'
      have HC := Lib.hid (lx_at cv_ord a b k hlt' hlt2' HT.out)
      have HX := Lib.hid (lx_next cv_ord a b k hlt' hlt2' HT.out)
      clear d0' d1' d2' c0' c1' c2'
      generalize a[k] = x at *
      generalize b[k] = y at *
      obtain ⟨xk, xn, xs⟩ := x
      obtain ⟨yk, yn, ys⟩ := y
      simp only at c0 c1 c2 d0 d1 d2
      have K0 := Lib.hid c0
      have K1 := Lib.hid c1
      have K2 := Lib.hid c2
      have K3 := Lib.hid d0
      have K4 := Lib.hid d1
      have K5 := Lib.hid d2
      go_wp2_with fail
      go_region_held3 (fun w' => w'.cell? ⟨g, o + k * 3, none⟩ = some (.int .i64 xk) ∧ w'.cell? ⟨g, o + k * 3 + 1, none⟩ = some (.int .i64 xn) ∧ w'.cell? ⟨g, o + k * 3 + 2, none⟩ = some (sv xs) ∧ w'.cell? ⟨g2, o2 + k * 3, none⟩ = some (.int .i64 yk) ∧ w'.cell? ⟨g2, o2 + k * 3 + 1, none⟩ = some (.int .i64 yn) ∧ w'.cell? ⟨g2, o2 + k * 3 + 2, none⟩ = some (sv ys)) (first | exact ⟨K0.out, K1.out, K2.out, K3.out, K4.out, K5.out⟩ | go_keep)
        (first | (go_at_call 40; refine (cmpRG wr ⟨xk, xn, xs⟩ ⟨yk, yn, ys⟩ _ ?_).mono ?_; (first | assumption | exact Ext.refl _ | exact (Ext.refl _).drew); rintro e w3 ⟨rfl, q0, qG⟩; have f0 := qG.keeps K0.out; have f1 := qG.keeps K1.out; have f2 := qG.keeps K2.out; have f3 := qG.keeps K3.out; have f4 := qG.keeps K4.out; have f5 := qG.keeps K5.out))
      by_cases hz : cmpV ⟨xk, xn, xs⟩ ⟨yk, yn, ys⟩ = 0
      · have HX' := Lib.hid (HX.out hz)
        have hz1 : (cmpV ⟨xk, xn, xs⟩ ⟨yk, yn, ys⟩ == 0) = true := by simpa using hz
        clear hz
        go_wp2_with fail
        go_roundw
        case rel => exact ⟨k + 1, hlt', hlt2', by go_num, HX', hE.trans qG⟩
        case measure => simp [intOf]; omega
      · have HR := Lib.hid (show lexC cmpV a b = cmpV ⟨xk, xn, xs⟩ ⟨yk, yn, ys⟩ by rw [HC.out, if_neg hz])
        have hz1 : (cmpV ⟨xk, xn, xs⟩ ⟨yk, yn, ys⟩ == 0) = false := by simpa using hz
        go_wp2_with fail
        try simp only [Exit.inBlock, Exit.then]
        go_ret
        exact ⟨ret_int HR.out.symm, hE.trans qG⟩
    · have hR := lx_end cv_ord a b k hk hkb HT.out (by have := HN.out; have := HM.out; omega)
      have hge : ¬ k < n ∨ (k < n ∧ ¬ k < m) := by
        by_cases e : k < n
        · exact Or.inr ⟨e, fun e2 => hex ⟨e, e2⟩⟩
        · exact Or.inl e
      clear hex
      rcases hge with hx | ⟨hx, hx2⟩
      all_goals
        by_cases hnm : n < m
        · have HR := Lib.hid (show lexC cmpV a b = -1 by rw [hR, if_pos (by rw [← HN.out, ← HM.out]; exact hnm)])
          clear hR
          first
            | (exfalso; omega)
            | (go_wp2_with fail
               try simp only [Exit.inBlock, Exit.then]
               go_ret
               exact ⟨ret_int HR.out.symm, hE⟩)
        · by_cases hmn : m < n
          · have HR := Lib.hid (show lexC cmpV a b = 1 by rw [hR, if_neg (by rw [← HN.out, ← HM.out]; exact hnm), if_pos (by rw [← HN.out, ← HM.out]; exact hmn)])
            clear hR
            go_wp2_with fail
            try simp only [Exit.inBlock, Exit.then]
            go_ret
            exact ⟨ret_int HR.out.symm, hE⟩
          · have HR := Lib.hid (show lexC cmpV a b = 0 by rw [hR, if_neg (by rw [← HN.out, ← HM.out]; exact hnm), if_neg (by rw [← HN.out, ← HM.out]; exact hmn)])
            clear hR
            go_wp2_with fail
            try simp only [Exit.inBlock, Exit.then]
            go_ret
            exact ⟨ret_int HR.out.symm, hE⟩
set_option maxHeartbeats 4000000 in
set_option maxRecDepth 100000 in
theorem cints_ref (a b : List Int) (va vb : Value) (w : World) (hra : RdG w va a) (hrb : RdG w vb b) : Calls Tryz.prog 51 #[va, vb] w fun e w' => e = .returned (.int .i64 (cmpN a b)) ∧ Ext w w' := by
  obtain ⟨ad, cap, rfl, h1, h2⟩ := hra.shape
  obtain ⟨bd, bcap, rfl, i1, i2⟩ := hrb.shape
  have H4 := Lib.hid hra
  have I4 := Lib.hid hrb
  clear hra hrb
  obtain ⟨n, hn⟩ : ∃ n, n = a.length := ⟨_, rfl⟩
  obtain ⟨m, hm⟩ : ∃ m, m = b.length := ⟨_, rfl⟩
  have HN := Lib.hid hn
  have HM := Lib.hid hm
  rw [← hn] at h1 H4 ⊢
  rw [← hm] at i1 I4 ⊢
  unfold cmpN
  clear hn hm
  unfold maxLen at h2 i2
  go_enter Tryz.func51, Tryz.ntmps51
  go_wp2_with fail
  go_loopw [5] (ClR8 w a b) (fun i _ => n - (intOf i).toNat)
  case atStart => exact ⟨0, Nat.zero_le _, Nat.zero_le _, rfl, Lib.hid (by simp), Ext.refl _⟩
  case round =>
    obtain ⟨k, hk, hkb, rfl, HT, hE⟩ := hrel
    have hkn : k ≤ n := by rw [HN.out]; exact hk
    have hkm : k ≤ m := by rw [HM.out]; exact hkb
    by_cases hex : k < n ∧ k < m
    · obtain ⟨hlt, hlt2⟩ := hex
      have hlt' : k < a.length := by rw [← HN.out]; exact hlt
      obtain ⟨g, o, rfl, c0'⟩ := rd_I H4.out k hlt'
      have hlt2' : k < b.length := by rw [← HM.out]; exact hlt2
      obtain ⟨g2, o2, rfl, d0'⟩ := rd_I I4.out k hlt2'
      have c0 := hE.keeps c0'
      have d0 := hE.keeps d0'
      have HC := Lib.hid (lx_at ci_ord a b k hlt' hlt2' HT.out)
      have HX := Lib.hid (lx_next ci_ord a b k hlt' hlt2' HT.out)
      have hi0 : (0 : Int) ≤ (k : Int) := Int.natCast_nonneg _
      have hi1 : (k : Int) < (n : Int) := by omega
      have hi2 : (k : Int) < (m : Int) := by omega
      clear d0' c0'
      generalize a[k] = x at *
      generalize b[k] = y at *
      rcases ci_vals x y with ⟨hv, hxy⟩ | ⟨hv, hxy⟩ | ⟨hv, hxy⟩
      · have HR := Lib.hid (show lexC Lib.compareInt a b = -1 by rw [HC.out, hv]; rfl)
        clear hv
        go_wp2_with fail
        go_quiet (fail)
        go_wp2_with fail
        try simp only [Exit.inBlock, Exit.then]
        go_ret
        exact ⟨ret_int HR.out.symm, ⟨hE.1, hE.2.1, hE.2.2⟩⟩
      · subst hxy
        have HX' := Lib.hid (HX.out hv)
        clear hv
        have hir : ¬ x < x := by omega
        go_wp2_with fail
        go_quiet (fail)
        go_wp2_with fail
        go_quiet (fail)
        go_wp2_with fail
        go_roundw
        case rel => exact ⟨k + 1, hlt', hlt2', by go_num, HX', ⟨hE.1, hE.2.1, hE.2.2⟩⟩
        case measure => simp [intOf]; omega
      · have HR := Lib.hid (show lexC Lib.compareInt a b = 1 by rw [HC.out, hv]; rfl)
        clear hv
        have hir : ¬ x < y := by omega
        go_wp2_with fail
        go_quiet (fail)
        go_wp2_with fail
        go_quiet (fail)
        go_wp2_with fail
        try simp only [Exit.inBlock, Exit.then]
        go_ret
        exact ⟨ret_int HR.out.symm, ⟨hE.1, hE.2.1, hE.2.2⟩⟩
    · have hR := lx_end ci_ord a b k hk hkb HT.out (by have := HN.out; have := HM.out; omega)
      have hge : ¬ k < n ∨ (k < n ∧ ¬ k < m) := by
        by_cases e : k < n
        · exact Or.inr ⟨e, fun e2 => hex ⟨e, e2⟩⟩
        · exact Or.inl e
      clear hex
      rcases hge with hx | ⟨hx, hx2⟩
      all_goals
        by_cases hnm : n < m
        · have HR := Lib.hid (show lexC Lib.compareInt a b = -1 by rw [hR, if_pos (by rw [← HN.out, ← HM.out]; exact hnm)])
          clear hR
          first
            | (exfalso; omega)
            | (go_wp2_with fail
               try simp only [Exit.inBlock, Exit.then]
               go_ret
               exact ⟨ret_int HR.out.symm, hE⟩)
        · by_cases hmn : m < n
          · have HR := Lib.hid (show lexC Lib.compareInt a b = 1 by rw [hR, if_neg (by rw [← HN.out, ← HM.out]; exact hnm), if_pos (by rw [← HN.out, ← HM.out]; exact hmn)])
            clear hR
            go_wp2_with fail
            try simp only [Exit.inBlock, Exit.then]
            go_ret
            exact ⟨ret_int HR.out.symm, hE⟩
          · have HR := Lib.hid (show lexC Lib.compareInt a b = 0 by rw [hR, if_neg (by rw [← HN.out, ← HM.out]; exact hnm), if_neg (by rw [← HN.out, ← HM.out]; exact hmn)])
            clear hR
            go_wp2_with fail
            try simp only [Exit.inBlock, Exit.then]
            go_ret
            exact ⟨ret_int HR.out.symm, hE⟩
end Go.Proofs.YtbplapkcleipiaaGreatDoor
/- The reference's Less, SameRow, SameRows, Multiplicity. -/
namespace Go.Proofs.YtbplapkcleipiaaGreatDoor
open Go.ChangeShapes Go.WideShapes Go.ChangeAt Go.RowKit

theorem ex2 (w : World) (c d : Array Value) (t u : TypeId) : Ext w ((w.alloc (.cells c t)).alloc (.cells d u)) := ((Ext.refl _).alloc _ _).alloc _ _
/-- the row is less -/
def ltB (x y : R) : Bool := decide (cmpW x y = -1)
def sameB (x y : R) : Bool := decide (x = y)
set_option maxHeartbeats 4000000 in
theorem sameRow_ref (x y : R) (va ta vb tb : Value) (w : World) (hva : RdG w va x.v) (hta : RdG w ta x.t) (hvb : RdG w vb y.v) (htb : RdG w tb y.t) :
    Calls Tryz.prog 35 #[.agg #[va, ta], .agg #[vb, tb]] w fun e w' => e = .returned (.bool (sameB x y)) ∧ Ext w w' := by
  obtain ⟨a1, c1, rfl, _, _⟩ := hva.shape
  obtain ⟨a2, c2, rfl, _, _⟩ := hta.shape
  obtain ⟨a3, c3, rfl, _, _⟩ := hvb.shape
  obtain ⟨a4, c4, rfl, _, _⟩ := htb.shape
  have H1 := Lib.hid hva
  have H2 := Lib.hid hta
  have H3 := Lib.hid hvb
  have H4 := Lib.hid htb
  clear hva hta hvb htb
  obtain ⟨n1, e1⟩ : ∃ n, n = x.v.length := ⟨_, rfl⟩
  obtain ⟨n2, e2⟩ : ∃ n, n = x.t.length := ⟨_, rfl⟩
  obtain ⟨n3, e3⟩ : ∃ n, n = y.v.length := ⟨_, rfl⟩
  obtain ⟨n4, e4⟩ : ∃ n, n = y.t.length := ⟨_, rfl⟩
  rw [← e1] at H1 ⊢
  rw [← e2] at H2 ⊢
  rw [← e3] at H3 ⊢
  rw [← e4] at H4 ⊢
  clear e1 e2 e3 e4
  have hcr := crowsG_ref x.v y.v
  have hxy : sameB x y = decide (x.v = y.v ∧ x.t = y.t) := by
    obtain ⟨xv, xt⟩ := x
    obtain ⟨yv, yt⟩ := y
    unfold sameB
    simp only [R.mk.injEq]
  by_cases hz : cmpR x.v y.v = 0
  · rw [hz] at hcr
    have HC := Lib.hid hcr
    have hcn := cints_ref x.t y.t
    have hzz := (cr_ord.zero _ _).1 hz
    have hn := cn_ord.zero x.t y.t
    clear hcr hz
    by_cases hz2 : cmpN x.t y.t = 0
    all_goals
      have HX := Lib.hid hxy
      have HN := Lib.hid hn
      have HZZ := Lib.hid hzz
      clear hxy hn hzz
      go_enter Tryz.func35, Tryz.ntmps35
      go_wp2_with fail
      refine (HC.out _ _ _ (H1.out.ext (ex2 _ _ _ _ _)) (H3.out.ext (ex2 _ _ _ _ _))).mono ?_; rintro e w1 ⟨rfl, hg⟩
      have hgw := Lib.hid ((ex2 w #[.slice a1 n1 c1, .slice a2 n2 c2] #[.slice a3 n3 c3, .slice a4 n4 c4] 51 51).trans hg)
      have k1 := hg.keeps (((Ext.refl _).alloc _ _).keeps (al1 w (.slice a1 n1 c1) (.slice a2 n2 c2) 51))
      have k2 := hg.keeps (al1 (w.alloc (.cells #[.slice a1 n1 c1, .slice a2 n2 c2] 51)) (.slice a3 n3 c3) (.slice a4 n4 c4) 51)
      rw [alsz] at k2
      have s1 : w.heap.size < w1.heap.size := World.block_lt_of_cell? _ _ k1
      have s2 : w.heap.size + 1 < w1.heap.size := World.block_lt_of_cell? _ _ k2
      clear hg
      go_wp2_with fail
      refine (hcn _ _ _ (H2.out.ext hgw.out) (H4.out.ext hgw.out)).mono ?_; rintro e w2 ⟨rfl, hg2⟩
    · have hb : (cmpN x.t y.t == 0) = true := by simpa using hz2
      have HV := Lib.hid (show sameB x y = true by rw [HX.out]; simpa using ⟨HZZ.out, HN.out.1 hz2⟩)
      clear hz2
      go_wp2_with fail
      go_ret
      exact ⟨ret_bool (by first | exact HV.out.symm | (rw [HV.out]; first | assumption | rfl | simp [*])), hgw.out.trans hg2⟩
    · have hb : (cmpN x.t y.t == 0) = false := by simpa using hz2
      have HV := Lib.hid (show sameB x y = false by rw [HX.out]; simp only [decide_eq_false_iff_not]; exact fun h => hz2 (HN.out.2 h.2))
      clear hz2
      go_wp2_with fail
      go_ret
      exact ⟨ret_bool (by first | exact HV.out.symm | (rw [HV.out]; first | assumption | rfl | simp [*])), hgw.out.trans hg2⟩
  · have HR := Lib.hid (show sameB x y = false by rw [hxy]; simp only [decide_eq_false_iff_not]; exact fun h => hz ((cr_ord.zero _ _).2 h.1))
    have hb : (cmpR x.v y.v == 0) = false := by simpa using hz
    have HC := Lib.hid hcr
    clear hcr hxy
    go_enter Tryz.func35, Tryz.ntmps35
    go_wp2_with fail
    refine (HC.out _ _ _ (H1.out.ext (ex2 _ _ _ _ _)) (H3.out.ext (ex2 _ _ _ _ _))).mono ?_; rintro e w1 ⟨rfl, hg⟩
    go_wp2_with fail
    go_ret
    exact ⟨ret_bool HR.out.symm, (ex2 _ _ _ _ _).trans hg⟩
end Go.Proofs.YtbplapkcleipiaaGreatDoor
/- The reference's SameRows. -/
namespace Go.Proofs.YtbplapkcleipiaaGreatDoor
open Go.ChangeShapes Go.WideShapes Go.ChangeAt Go.RowKit

/-- SameRow over an elder world -/
theorem sameRowE (W0 : World) (x y : P) (w : World) (hx : RdRow W0 x) (hy : RdRow W0 y) (h : Ext W0 w) : Calls Tryz.prog 35 #[.agg #[x.h.x, x.h.y], .agg #[y.h.x, y.h.y]] w fun e w' => e = .returned (.bool (sameB x.r y.r)) ∧ (∀ b o, b < W0.heap.size → w'.cell? ⟨b, o, none⟩ = W0.cell? ⟨b, o, none⟩) ∧ Ext W0 w' :=
  heldE W0 (sameRow_ref x.r y.r _ _ _ _ w (hx.1.ext h) (hx.2.ext h) (hy.1.ext h) (hy.2.ext h)) h
def srB (a b : List R) : Bool := decide (a = b)
def SrR (w : World) (a b : List R) (i : Value) (wr : World) : Prop := ∃ k : Nat, k ≤ a.length ∧ i = .int .i64 k ∧ Hid (a.take k = b.take k) ∧ Ext w wr
theorem sr_no {a b : List R} {k : Nat} (ha : k < a.length) (hb : k < b.length) (h : a[k] ≠ b[k]) : srB a b = false := by
  unfold srB
  simp only [decide_eq_false_iff_not]
  rintro rfl
  exact h rfl
theorem sr_next {a b : List R} {k : Nat} (ha : k < a.length) (hb : k < b.length) (e : a.take k = b.take k) (h : a[k] = b[k]) : a.take (k + 1) = b.take (k + 1) := by
  rw [List.take_succ_eq_append_getElem ha, List.take_succ_eq_append_getElem hb, e, h]
set_option maxHeartbeats 4000000 in
set_option maxRecDepth 100000 in
theorem sameRows_ref (ps qs : List P) (va vb : Value) (w : World) (hra : RdG w va ps) (hrb : RdG w vb qs) (hia : RdAll w ps) (hib : RdAll w qs) :
    Calls Tryz.prog 16 #[va, vb] w fun e w' => e = .returned (.bool (srB (rows ps) (rows qs))) ∧ Ext w w' := by
  obtain ⟨ad, cap, rfl, h1, h2⟩ := hra.shape
  obtain ⟨bd, bcap, rfl, i1, i2⟩ := hrb.shape
  have H4 := Lib.hid hra
  have I4 := Lib.hid hrb
  have HA := Lib.hid hia
  have HB := Lib.hid hib
  clear hra hrb hia hib
  obtain ⟨n, hn⟩ : ∃ n, n = ps.length := ⟨_, rfl⟩
  obtain ⟨m, hm⟩ : ∃ m, m = qs.length := ⟨_, rfl⟩
  have HN := Lib.hid hn
  have HM := Lib.hid hm
  rw [← hn] at h1 H4 ⊢
  rw [← hm] at i1 I4 ⊢
  clear hn hm
  have HLA := Lib.hid (show (rows ps).length = n by rw [rows_len, HN.out])
  have HLB := Lib.hid (show (rows qs).length = m by rw [rows_len, HM.out])
  unfold maxLen at h2 i2
  by_cases hnm : n = m
  · subst hnm
    go_enter Tryz.func16, Tryz.ntmps16
    go_wp2_with fail
    go_loopw [5] (SrR w (rows ps) (rows qs)) (fun i _ => n - (intOf i).toNat)
    case atStart => exact ⟨0, Nat.zero_le _, rfl, Lib.hid (by simp), Ext.refl _⟩
    case round =>
      obtain ⟨k, hk, rfl, HT, hE⟩ := hrel
      have hkn : k ≤ n := by rw [← HLA.out]; exact hk
      by_cases hlt : k < n
      · have hlt' : k < ps.length := by rw [← HN.out]; exact hlt
        have hlt2' : k < qs.length := by rw [← HM.out]; exact hlt
        have hltr : k < (rows ps).length := by rw [rows_len]; exact hlt'
        have hltr2 : k < (rows qs).length := by rw [rows_len]; exact hlt2'
        obtain ⟨g, o, rfl, c0', c1'⟩ := rd_P H4.out k hlt'
        obtain ⟨g2, o2, rfl, d0', d1'⟩ := rd_P I4.out k hlt2'
        have c0 := hE.keeps c0'
        have c1 := hE.keeps c1'
        have d0 := hE.keeps d0'
        have d1 := hE.keeps d1'
        have hix := (HA.out ps[k] (List.getElem_mem _)).ext hE
        have hiy := (HB.out qs[k] (List.getElem_mem _)).ext hE
        have HN1 := Lib.hid (@sr_no (rows ps) (rows qs) k hltr hltr2)
        have HN2 := Lib.hid (@sr_next (rows ps) (rows qs) k hltr hltr2 HT.out)
        rw [rows_at ps k hlt', rows_at qs k hlt2'] at HN1 HN2
        have hi0 : (0 : Int) ≤ (k : Int) := Int.natCast_nonneg _
        have hi1 : (k : Int) < (n : Int) := by omega
        clear c0' c1' d0' d1'
        generalize ps[k] = x at *
        generalize qs[k] = y at *
        have hcv := sameRowE wr x y
        obtain ⟨⟨xa, xn, xc, xb, xm, xd⟩, xr⟩ := x
        obtain ⟨⟨ya, yn, yc, yb, ym, yd⟩, yr⟩ := y
        simp only [Hd.x, Hd.y] at c0 c1 d0 d1 hcv
        have K0 := Lib.hid c0
        have K1 := Lib.hid c1
        have K2 := Lib.hid d0
        have K3 := Lib.hid d1
        have HIX := Lib.hid hix
        have HIY := Lib.hid hiy
        clear hix hiy
        have hyes : sameB xr yr = true → xr = yr := by unfold sameB; simp
        have hno : sameB xr yr = false → xr ≠ yr := by unfold sameB; simp
        cases hb : sameB xr yr with
        | true =>
          rw [hb] at hcv
          have HV := Lib.hid hcv
          have HX := Lib.hid (HN2.out (hyes hb))
          clear hcv hb hyes hno
          go_wp2_with fail
          go_region_held3 (fun w' => w'.cell? ⟨g, o + k * 2, none⟩ = some (.slice xa xn xc) ∧ w'.cell? ⟨g, o + k * 2 + 1, none⟩ = some (.slice xb xm xd) ∧ w'.cell? ⟨g2, o2 + k * 2, none⟩ = some (.slice ya yn yc) ∧ w'.cell? ⟨g2, o2 + k * 2 + 1, none⟩ = some (.slice yb ym yd)) (first | exact ⟨K0.out, K1.out, K2.out, K3.out⟩ | exact ⟨f0, f1, f2, f3⟩ | go_keep)
            (first | (go_at_call 35; refine (HV.out _ HIX.out HIY.out ?_).mono ?_; (first | assumption | exact Ext.refl _ | exact (Ext.refl _).drew); rintro e w3 ⟨rfl, q0, qG⟩; have f0 := qG.keeps K0.out; have f1 := qG.keeps K1.out; have f2 := qG.keeps K2.out; have f3 := qG.keeps K3.out))
          all_goals
            go_wp2_with fail
            go_roundw
            case rel => exact ⟨k + 1, hltr, by go_num, HX, hE.trans qG⟩
            case measure => simp [intOf]; omega
        | false =>
          rw [hb] at hcv
          have HV := Lib.hid hcv
          have HX := Lib.hid (HN1.out (hno hb))
          clear hcv hb hyes hno
          go_wp2_with fail
          go_region_held3 (fun w' => w'.cell? ⟨g, o + k * 2, none⟩ = some (.slice xa xn xc) ∧ w'.cell? ⟨g, o + k * 2 + 1, none⟩ = some (.slice xb xm xd) ∧ w'.cell? ⟨g2, o2 + k * 2, none⟩ = some (.slice ya yn yc) ∧ w'.cell? ⟨g2, o2 + k * 2 + 1, none⟩ = some (.slice yb ym yd)) (first | exact ⟨K0.out, K1.out, K2.out, K3.out⟩ | exact ⟨f0, f1, f2, f3⟩ | go_keep)
            (first | (go_at_call 35; refine (HV.out _ HIX.out HIY.out ?_).mono ?_; (first | assumption | exact Ext.refl _ | exact (Ext.refl _).drew); rintro e w3 ⟨rfl, q0, qG⟩; have f0 := qG.keeps K0.out; have f1 := qG.keeps K1.out; have f2 := qG.keeps K2.out; have f3 := qG.keeps K3.out))
          all_goals
            go_wp2_with fail
            try simp only [Exit.inBlock, Exit.then]
            go_ret
            exact ⟨ret_bool HX.out.symm, hE.trans qG⟩
      · have HR := Lib.hid (show srB (rows ps) (rows qs) = true by
          have h1 := HT.out
          rw [List.take_of_length_le (by rw [HLA.out]; omega), List.take_of_length_le (by rw [HLB.out]; omega)] at h1
          unfold srB
          simpa using h1)
        go_wp2_with fail
        go_ret
        exact ⟨ret_bool HR.out.symm, hE⟩
  · have hb : ((n : Int) == (m : Int)) = false := by simp; omega
    have hb2 : ¬ ((n : Int) = (m : Int)) := by omega
    have HV := Lib.hid (show srB (rows ps) (rows qs) = false by
      unfold srB
      simp only [decide_eq_false_iff_not]
      intro h
      have := congrArg List.length h
      rw [HLA.out, HLB.out] at this
      exact hnm this)
    go_enter Tryz.func16, Tryz.ntmps16
    go_wp2_with fail
    go_ret
    exact ⟨ret_bool HV.out.symm, Ext.refl _⟩
end Go.Proofs.YtbplapkcleipiaaGreatDoor
/- The program's Multiplicity. -/
namespace Go.Proofs.YtbplapkcleipiaaGreatDoor
open Go.ChangeShapes Go.WideShapes Go.ChangeAt Go.RowKit

theorem cnt_step (l : List R) (k : Nat) (h : k < l.length) (v : List V) : cnt (l.take (k + 1)) v = cnt (l.take k) v + (if l[k].v = v then 1 else 0) := by
  rw [List.take_succ_eq_append_getElem h, cnt_app, cnt_cons]; simp [cnt]
def MuR (w : World) (l : List R) (v : List V) (c i : Value) (wr : World) : Prop := ∃ k : Nat, k ≤ l.length ∧ i = .int .i64 k ∧ c = .int .i64 (cnt (l.take k) v : Nat) ∧ Ext w wr
set_option maxHeartbeats 4000000 in
set_option maxRecDepth 100000 in
theorem mult_prg (ps : List P) (vl : List V) (v vv : Value) (w : World) (ha : RdG w v ps) (ia : RdAll w ps) (hv : RdG w vv vl) :
    Calls Tryz.prog 19 #[v, vv] w fun e w' => e = .returned (.int .i64 (cnt (rows ps) vl : Nat)) ∧ Ext w w' := by
  obtain ⟨ad, cap, rfl, h1, h2⟩ := ha.shape
  obtain ⟨bd, bcap, rfl, i1, i2⟩ := hv.shape
  have HA := Lib.hid ha
  have IA := Lib.hid ia
  have HB := Lib.hid hv
  clear ha ia hv
  obtain ⟨n, hn⟩ : ∃ n, n = ps.length := ⟨_, rfl⟩
  obtain ⟨m, hm⟩ : ∃ m, m = vl.length := ⟨_, rfl⟩
  have HN := Lib.hid hn
  rw [← hn] at h1 HA ⊢
  rw [← hm] at i1 HB ⊢
  clear hn hm
  unfold maxLen at h2 i2
  go_enter Tryz.func19, Tryz.ntmps19
  go_wp2_with fail
  go_loopw [5, 10] (MuR w (rows ps) vl) (fun _ i _ => n - (intOf i).toNat)
  case atStart => exact ⟨0, Nat.zero_le _, rfl, by simp [cnt], Ext.refl _⟩
  case round =>
    obtain ⟨k, hk, rfl, rfl, hE⟩ := hrel
    rw [rows_len] at hk
    have hkn : k ≤ n := by rw [HN.out]; exact hk
    have hcb : cnt ((rows ps).take k) vl ≤ k := Nat.le_trans (cnt_le _ _) (by rw [List.length_take]; exact Nat.min_le_left _ _)
    by_cases hlt : k < n
    · have hlt' : k < ps.length := by rw [← HN.out]; exact hlt
      have hst := cnt_step (rows ps) k (by rw [rows_len]; exact hlt') vl
      rw [rows_at ps k hlt'] at hst
      obtain ⟨g, o, rfl, c0', c1'⟩ := rd_P HA.out k hlt'
      have c0 := hE.keeps c0'
      have c1 := hE.keeps c1'
      have hix := IA.out ps[k] (List.getElem_mem _)
      clear c0' c1'
      generalize ps[k] = x at *
      obtain ⟨⟨xa, xn, xc, xb, xm, xd⟩, xr⟩ := x
      simp only [Hd.x, Hd.y] at c0 c1 hst
      have hcv := fun w2 (hg : Ext w w2) => crows_gw xr.v vl _ _ w2 (hix.1.ext hg) (HB.out.ext hg)
      clear hix
      simp only [Hd.x] at hcv
      by_cases hz : xr.v = vl
      · rw [if_pos hz] at hst
        have HST := Lib.hid hst
        have hc0 : cmpR xr.v vl = 0 := (cr_ord.zero _ _).2 hz
        rw [hc0] at hcv
        have HV := Lib.hid hcv
        clear hst hcv hz hc0
        generalize cnt ((rows ps).take k) vl = c at *
        go_wp2_with fail
        refine (HV.out _ (hE.alloc _ _)).mono ?_; rintro e w1 ⟨rfl, hg⟩
        go_wp2_with fail
        go_roundw
        case rel => exact ⟨k + 1, by rw [rows_len]; exact hlt', by go_num, by rw [HST.out]; go_num, (hE.alloc _ _).trans hg.ext⟩
        case measure => simp [intOf]; omega
      · rw [if_neg hz] at hst
        have HST := Lib.hid hst
        have hz0 : ¬ cmpR xr.v vl = 0 := fun e => hz ((cr_ord.zero _ _).1 e)
        have hz1 : (cmpR xr.v vl == 0) = false := by simpa using hz0
        have HV := Lib.hid hcv
        clear hst hcv hz
        generalize cnt ((rows ps).take k) vl = c at *
        go_wp2_with fail
        refine (HV.out _ (hE.alloc _ _)).mono ?_; rintro e w1 ⟨rfl, hg⟩
        go_wp2_with fail
        go_roundw
        case rel => exact ⟨k + 1, by rw [rows_len]; exact hlt', by go_num, by rw [HST.out]; rfl, (hE.alloc _ _).trans hg.ext⟩
        case measure => simp [intOf]; omega
    · have hall : (rows ps).take k = rows ps := by rw [List.take_of_length_le]; rw [rows_len, ← HN.out]; omega
      have HC := Lib.hid (show (cnt ((rows ps).take k) vl : Int) = (cnt (rows ps) vl : Int) by rw [hall])
      clear hall
      generalize cnt ((rows ps).take k) vl = c at hcb HC ⊢
      go_wp2_with fail
      go_ret
      exact ⟨ret_int HC.out, hE⟩
end Go.Proofs.YtbplapkcleipiaaGreatDoor
/- Four numbers as an argument. -/
namespace Go.Proofs.YtbplapkcleipiaaGreatDoor
open Go.ChangeShapes Go.WideShapes Go.ChangeAt Go.RowKit Go.Joins

theorem wf_q {a : Int} (h : (Lit.int .u16 a).wf = true) : 0 ≤ a ∧ a ≤ 65535 := by
  have h1 : IntKind.u16.min = 0 := by decide
  have h2 : IntKind.u16.max = 65535 := by decide
  simp [Lit.wf] at h
  omega

section
variable {H : Type} {enc : TypeId × Value → H} {w : World} {base : Nat} {spare : Nat → Bool} {held : Bool}
set_option maxRecDepth 100000 in
theorem open_four {r : Reach} {b0 : Nat} {v : Value} {d : DataW H} {p : List MemPlace} (hv : Value.okWide Tryz.prog w r b0 40 v) (h : DataW.Trod enc Tryz.prog w base spare held 40 v d p) :
    ∃ a b c e : Int, v = .agg #[.int .u16 a, .int .u16 b, .int .u16 c, .int .u16 e] ∧ d = .agg [.lit (.int .u16 a), .lit (.int .u16 b), .lit (.int .u16 c), .lit (.int .u16 e)] ∧ p = [] ∧ (Lit.int .u16 a).wf = true ∧ (Lit.int .u16 b).wf = true ∧ (Lit.int .u16 c).wf = true ∧ (Lit.int .u16 e).wf = true := by
  have ht := Tryz.underlying40
  simp only [Value.okWide, ht] at hv
  obtain ⟨cs, rfl, hsz, _⟩ := hv
  have hC : Tryz.prog.cellsOf 40 = 4 := by kernel_rfl
  obtain ⟨c0, c1, c2, c3, rfl⟩ := array4 (hsz.trans hC)
  obtain ⟨fuel, hf⟩ := h
  obtain ⟨y0, y1, y2, y3, n, hx, h0, h1, h2, h3⟩ := trod_array4 ht (by kernel_rfl) hf
  obtain ⟨a, e0, x0, wa⟩ := DataW.trod_int Tryz.underlying39 h0
  obtain ⟨b, e1, x1, wb⟩ := DataW.trod_int Tryz.underlying39 h1
  obtain ⟨c, e2, x2, wc⟩ := DataW.trod_int Tryz.underlying39 h2
  obtain ⟨e, e3, x3, we⟩ := DataW.trod_int Tryz.underlying39 h3
  simp only [List.cons.injEq, and_true] at e0 e1 e2 e3
  subst e0 e1 e2 e3 x0 x1 x2 x3
  simp only [Prod.mk.injEq] at hx
  exact ⟨a, b, c, e, rfl, hx.1, hx.2, wa, wb, wc, we⟩
set_option maxRecDepth 100000 in
theorem shut_four {a b c e : Int} (wa : (Lit.int .u16 a).wf = true) (wb : (Lit.int .u16 b).wf = true) (wc : (Lit.int .u16 c).wf = true) (we : (Lit.int .u16 e).wf = true) :
    DataW.Trod enc Tryz.prog w base spare held 40 (.agg #[.int .u16 a, .int .u16 b, .int .u16 c, .int .u16 e]) (.agg [.lit (.int .u16 a), .lit (.int .u16 b), .lit (.int .u16 c), .lit (.int .u16 e)]) [] := by
  have ht := Tryz.underlying40
  obtain ⟨n0, t0⟩ := shut_int (enc := enc) (w := w) (base := base) (spare := spare) (held := held) Tryz.underlying39 wa
  obtain ⟨n1, t1⟩ := shut_int (enc := enc) (w := w) (base := base) (spare := spare) (held := held) Tryz.underlying39 wb
  obtain ⟨n2, t2⟩ := shut_int (enc := enc) (w := w) (base := base) (spare := spare) (held := held) Tryz.underlying39 wc
  obtain ⟨n3, t3⟩ := shut_int (enc := enc) (w := w) (base := base) (spare := spare) (held := held) Tryz.underlying39 we
  have hce : Tryz.prog.cellsOf 39 = 1 := by kernel_rfl
  have hC : Tryz.prog.cellsOf 40 = 4 := by kernel_rfl
  have r4 : List.range 4 = [0, 1, 2, 3] := rfl
  have s0 := DataW.trod_le (show n0 ≤ n0 + n1 + n2 + n3 by omega) t0
  have s1 := DataW.trod_le (show n1 ≤ n0 + n1 + n2 + n3 by omega) t1
  have s2 := DataW.trod_le (show n2 ≤ n0 + n1 + n2 + n3 by omega) t2
  have s3 := DataW.trod_le (show n3 ≤ n0 + n1 + n2 + n3 by omega) t3
  refine ⟨n0 + n1 + n2 + n3 + 1, ?_⟩
  unfold DataW.trod
  rw [ht]
  simp only [Value.cells] at s0 s1 s2 s3 ⊢
  simp [r4, hce, s0, s1, s2, s3]
  exact hC.symm
end
end Go.Proofs.YtbplapkcleipiaaGreatDoor
