/- The reference's Less, SameRow, SameRows, Multiplicity. -/
import Derived.Test.YtohpmbabegpefaaRl
import Derived.Test.YtohpmbabegpefaaEq8
namespace Go.Proofs.Ytohpmbabegpefaa
open Go.ChangeShapes Go.WideShapes Go.ChangeAt Go.RowKit

theorem ex2 (w : World) (c d : Array Value) (t u : TypeId) : Ext w ((w.alloc (.cells c t)).alloc (.cells d u)) := ((Ext.refl _).alloc _ _).alloc _ _
/-- the row is less -/
def ltB (x y : R) : Bool := decide (cmpW x y = -1)
def sameB (x y : R) : Bool := decide (x = y)
set_option maxHeartbeats 4000000 in
theorem less_ref (x y : R) (va ta vb tb : Value) (w : World) (hva : RdG w va x.v) (hta : RdG w ta x.t) (hvb : RdG w vb y.v) (htb : RdG w tb y.t) :
    Calls Try.prog 27 #[.agg #[va, ta], .agg #[vb, tb]] w fun e w' => e = .returned (.bool (ltB x y)) ∧ Ext w w' := by
  obtain ⟨a1, c1, rfl, _, _⟩ := hva.shape
  obtain ⟨a2, c2, rfl, _, _⟩ := hta.shape
  obtain ⟨a3, c3, rfl, _, _⟩ := hvb.shape
  obtain ⟨a4, c4, rfl, _, _⟩ := htb.shape
  have H1 := Lib.hid hva
  have H2 := Lib.hid hta
  have H3 := Lib.hid hvb
  have H4 := Lib.hid htb
  clear hva hta hvb htb
  obtain ⟨n1, e1⟩ : ∃ n, n = x.v.length := ⟨_, rfl⟩
  obtain ⟨n2, e2⟩ : ∃ n, n = x.t.length := ⟨_, rfl⟩
  obtain ⟨n3, e3⟩ : ∃ n, n = y.v.length := ⟨_, rfl⟩
  obtain ⟨n4, e4⟩ : ∃ n, n = y.t.length := ⟨_, rfl⟩
  rw [← e1] at H1 ⊢
  rw [← e2] at H2 ⊢
  rw [← e3] at H3 ⊢
  rw [← e4] at H4 ⊢
  clear e1 e2 e3 e4
  have hcr := crowsG_ref x.v y.v
  have hvals := cr_ord.vals x.v y.v
  rcases hvals with hz | hz | hz
  · have HR := Lib.hid (show ltB x y = true by unfold ltB cmpW; rw [if_neg (by omega), hz]; rfl)
    rw [hz] at hcr
    have HC := Lib.hid hcr
    clear hcr hz
    go_enter Try.func27, Try.ntmps27
    go_wp2_with fail
    refine (HC.out _ _ _ (H1.out.ext (ex2 _ _ _ _ _)) (H3.out.ext (ex2 _ _ _ _ _))).mono ?_; rintro e w1 ⟨rfl, hg⟩
    go_wp2_with fail
    go_ret
    exact ⟨ret_bool HR.out.symm, (ex2 _ _ _ _ _).trans hg⟩
  · have HR := Lib.hid (show ltB x y = decide (cmpN x.t y.t = -1) by unfold ltB cmpW; rw [if_pos hz])
    rw [hz] at hcr
    have HC := Lib.hid hcr
    clear hcr hz
    have hv2 := cn_ord.vals x.t y.t
    go_enter Try.func27, Try.ntmps27
    go_wp2_with fail
    refine (HC.out _ _ _ (H1.out.ext (ex2 _ _ _ _ _)) (H3.out.ext (ex2 _ _ _ _ _))).mono ?_; rintro e w1 ⟨rfl, hg⟩
    have hgw := Lib.hid ((ex2 w #[.slice a1 n1 c1, .slice a2 n2 c2] #[.slice a3 n3 c3, .slice a4 n4 c4] 32 32).trans hg)
    have k1 := hg.keeps (((Ext.refl _).alloc _ _).keeps (al1 w (.slice a1 n1 c1) (.slice a2 n2 c2) 32))
    have k2 := hg.keeps (al1 (w.alloc (.cells #[.slice a1 n1 c1, .slice a2 n2 c2] 32)) (.slice a3 n3 c3) (.slice a4 n4 c4) 32)
    rw [alsz] at k2
    have s1 : w.heap.size < w1.heap.size := World.block_lt_of_cell? _ _ k1
    have s2 : w.heap.size + 1 < w1.heap.size := World.block_lt_of_cell? _ _ k2
    clear hg
    go_wp2_with fail
    refine (cints_ref x.t y.t _ _ _ (H2.out.ext hgw.out) (H4.out.ext hgw.out)).mono ?_; rintro e w2 ⟨rfl, hg2⟩
    rcases hv2 with h | h | h
    all_goals
      rw [h] at HR ⊢
      go_wp2_with fail
      go_ret
      exact ⟨ret_bool (by rw [HR.out]; first | rfl | decide), hgw.out.trans hg2⟩
  · have HR := Lib.hid (show ltB x y = false by unfold ltB cmpW; rw [if_neg (by omega), hz]; rfl)
    rw [hz] at hcr
    have HC := Lib.hid hcr
    clear hcr hz
    go_enter Try.func27, Try.ntmps27
    go_wp2_with fail
    refine (HC.out _ _ _ (H1.out.ext (ex2 _ _ _ _ _)) (H3.out.ext (ex2 _ _ _ _ _))).mono ?_; rintro e w1 ⟨rfl, hg⟩
    go_wp2_with fail
    go_ret
    exact ⟨ret_bool HR.out.symm, (ex2 _ _ _ _ _).trans hg⟩
set_option maxHeartbeats 4000000 in
theorem sameRow_ref (x y : R) (va ta vb tb : Value) (w : World) (hva : RdG w va x.v) (hta : RdG w ta x.t) (hvb : RdG w vb y.v) (htb : RdG w tb y.t) :
    Calls Try.prog 24 #[.agg #[va, ta], .agg #[vb, tb]] w fun e w' => e = .returned (.bool (sameB x y)) ∧ Ext w w' := by
  obtain ⟨a1, c1, rfl, _, _⟩ := hva.shape
  obtain ⟨a2, c2, rfl, _, _⟩ := hta.shape
  obtain ⟨a3, c3, rfl, _, _⟩ := hvb.shape
  obtain ⟨a4, c4, rfl, _, _⟩ := htb.shape
  have H1 := Lib.hid hva
  have H2 := Lib.hid hta
  have H3 := Lib.hid hvb
  have H4 := Lib.hid htb
  clear hva hta hvb htb
  obtain ⟨n1, e1⟩ : ∃ n, n = x.v.length := ⟨_, rfl⟩
  obtain ⟨n2, e2⟩ : ∃ n, n = x.t.length := ⟨_, rfl⟩
  obtain ⟨n3, e3⟩ : ∃ n, n = y.v.length := ⟨_, rfl⟩
  obtain ⟨n4, e4⟩ : ∃ n, n = y.t.length := ⟨_, rfl⟩
  rw [← e1] at H1 ⊢
  rw [← e2] at H2 ⊢
  rw [← e3] at H3 ⊢
  rw [← e4] at H4 ⊢
  clear e1 e2 e3 e4
  have hcr := crowsG_ref x.v y.v
  have hxy : sameB x y = decide (x.v = y.v ∧ x.t = y.t) := by
    obtain ⟨xv, xt⟩ := x
    obtain ⟨yv, yt⟩ := y
    unfold sameB
    simp only [R.mk.injEq]
  by_cases hz : cmpR x.v y.v = 0
  · rw [hz] at hcr
    have HC := Lib.hid hcr
    have hcn := cints_ref x.t y.t
    have hzz := (cr_ord.zero _ _).1 hz
    have hn := cn_ord.zero x.t y.t
    clear hcr hz
    by_cases hz2 : cmpN x.t y.t = 0
    all_goals
      have HX := Lib.hid hxy
      have HN := Lib.hid hn
      have HZZ := Lib.hid hzz
      clear hxy hn hzz
      go_enter Try.func24, Try.ntmps24
      go_wp2_with fail
      refine (HC.out _ _ _ (H1.out.ext (ex2 _ _ _ _ _)) (H3.out.ext (ex2 _ _ _ _ _))).mono ?_; rintro e w1 ⟨rfl, hg⟩
      have hgw := Lib.hid ((ex2 w #[.slice a1 n1 c1, .slice a2 n2 c2] #[.slice a3 n3 c3, .slice a4 n4 c4] 32 32).trans hg)
      have k1 := hg.keeps (((Ext.refl _).alloc _ _).keeps (al1 w (.slice a1 n1 c1) (.slice a2 n2 c2) 32))
      have k2 := hg.keeps (al1 (w.alloc (.cells #[.slice a1 n1 c1, .slice a2 n2 c2] 32)) (.slice a3 n3 c3) (.slice a4 n4 c4) 32)
      rw [alsz] at k2
      have s1 : w.heap.size < w1.heap.size := World.block_lt_of_cell? _ _ k1
      have s2 : w.heap.size + 1 < w1.heap.size := World.block_lt_of_cell? _ _ k2
      clear hg
      go_wp2_with fail
      refine (hcn _ _ _ (H2.out.ext hgw.out) (H4.out.ext hgw.out)).mono ?_; rintro e w2 ⟨rfl, hg2⟩
    · have hb : (cmpN x.t y.t == 0) = true := by simpa using hz2
      have HV := Lib.hid (show sameB x y = true by rw [HX.out]; simpa using ⟨HZZ.out, HN.out.1 hz2⟩)
      clear hz2
      go_wp2_with fail
      go_ret
      exact ⟨ret_bool (by first | exact HV.out.symm | (rw [HV.out]; first | assumption | rfl | simp [*])), hgw.out.trans hg2⟩
    · have hb : (cmpN x.t y.t == 0) = false := by simpa using hz2
      have HV := Lib.hid (show sameB x y = false by rw [HX.out]; simp only [decide_eq_false_iff_not]; exact fun h => hz2 (HN.out.2 h.2))
      clear hz2
      go_wp2_with fail
      go_ret
      exact ⟨ret_bool (by first | exact HV.out.symm | (rw [HV.out]; first | assumption | rfl | simp [*])), hgw.out.trans hg2⟩
  · have HR := Lib.hid (show sameB x y = false by rw [hxy]; simp only [decide_eq_false_iff_not]; exact fun h => hz ((cr_ord.zero _ _).2 h.1))
    have hb : (cmpR x.v y.v == 0) = false := by simpa using hz
    have HC := Lib.hid hcr
    clear hcr hxy
    go_enter Try.func24, Try.ntmps24
    go_wp2_with fail
    refine (HC.out _ _ _ (H1.out.ext (ex2 _ _ _ _ _)) (H3.out.ext (ex2 _ _ _ _ _))).mono ?_; rintro e w1 ⟨rfl, hg⟩
    go_wp2_with fail
    go_ret
    exact ⟨ret_bool HR.out.symm, (ex2 _ _ _ _ _).trans hg⟩
end Go.Proofs.Ytohpmbabegpefaa
