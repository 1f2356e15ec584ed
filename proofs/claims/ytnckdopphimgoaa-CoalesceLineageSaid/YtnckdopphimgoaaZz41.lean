/- The reference's Less, SameRow, SameRows, Multiplicity. -/
import Derived.Test.YtnckdopphimgoaaZz40
namespace Go.Proofs.Ytnckdopphimgoaa
open Go.ChangeShapes Go.WideShapes Go.ChangeAt Go.RowKit

theorem ex2 (w : World) (c d : Array Value) (t u : TypeId) : Ext w ((w.alloc (.cells c t)).alloc (.cells d u)) := ((Ext.refl _).alloc _ _).alloc _ _
/-- the row is less -/
def ltB (x y : R) : Bool := decide (cmpW x y = -1)
def sameB (x y : R) : Bool := decide (x = y)
set_option maxHeartbeats 4000000 in
theorem sameRow_ref (x y : R) (va ta vb tb : Value) (w : World) (hva : RdG w va x.v) (hta : RdG w ta x.t) (hvb : RdG w vb y.v) (htb : RdG w tb y.t) :
    Calls Try.prog 15 #[.agg #[va, ta], .agg #[vb, tb]] w fun e w' => e = .returned (.bool (sameB x y)) ∧ Ext w w' := by
  obtain ⟨a1, c1, rfl, _, _⟩ := hva.shape
  obtain ⟨a2, c2, rfl, _, _⟩ := hta.shape
  obtain ⟨a3, c3, rfl, _, _⟩ := hvb.shape
  obtain ⟨a4, c4, rfl, _, _⟩ := htb.shape
  have H1 := Lib.hid hva
  have H2 := Lib.hid hta
  have H3 := Lib.hid hvb
  have H4 := Lib.hid htb
  clear hva hta hvb htb
  obtain ⟨n1, e1⟩ : ∃ n, n = x.v.length := ⟨_, rfl⟩
  obtain ⟨n2, e2⟩ : ∃ n, n = x.t.length := ⟨_, rfl⟩
  obtain ⟨n3, e3⟩ : ∃ n, n = y.v.length := ⟨_, rfl⟩
  obtain ⟨n4, e4⟩ : ∃ n, n = y.t.length := ⟨_, rfl⟩
  rw [← e1] at H1 ⊢
  rw [← e2] at H2 ⊢
  rw [← e3] at H3 ⊢
  rw [← e4] at H4 ⊢
  clear e1 e2 e3 e4
  have hcr := crowsG_ref x.v y.v
  have hxy : sameB x y = decide (x.v = y.v ∧ x.t = y.t) := by
    obtain ⟨xv, xt⟩ := x
    obtain ⟨yv, yt⟩ := y
    unfold sameB
    simp only [R.mk.injEq]
  by_cases hz : cmpR x.v y.v = 0
  · rw [hz] at hcr
    have HC := Lib.hid hcr
    have hcn := cints_ref x.t y.t
    have hzz := (cr_ord.zero _ _).1 hz
    have hn := cn_ord.zero x.t y.t
    clear hcr hz
    by_cases hz2 : cmpN x.t y.t = 0
    all_goals
      have HX := Lib.hid hxy
      have HN := Lib.hid hn
      have HZZ := Lib.hid hzz
      clear hxy hn hzz
      go_enter Try.func15, Try.ntmps15
      go_wp2_with fail
      refine (HC.out _ _ _ (H1.out.ext (ex2 _ _ _ _ _)) (H3.out.ext (ex2 _ _ _ _ _))).mono ?_; rintro e w1 ⟨rfl, hg⟩
      have hgw := Lib.hid ((ex2 w #[.slice a1 n1 c1, .slice a2 n2 c2] #[.slice a3 n3 c3, .slice a4 n4 c4] 47 47).trans hg)
      have k1 := hg.keeps (((Ext.refl _).alloc _ _).keeps (al1 w (.slice a1 n1 c1) (.slice a2 n2 c2) 47))
      have k2 := hg.keeps (al1 (w.alloc (.cells #[.slice a1 n1 c1, .slice a2 n2 c2] 47)) (.slice a3 n3 c3) (.slice a4 n4 c4) 47)
      rw [alsz] at k2
      have s1 : w.heap.size < w1.heap.size := World.block_lt_of_cell? _ _ k1
      have s2 : w.heap.size + 1 < w1.heap.size := World.block_lt_of_cell? _ _ k2
      clear hg
      go_wp2_with fail
      refine (hcn _ _ _ (H2.out.ext hgw.out) (H4.out.ext hgw.out)).mono ?_; rintro e w2 ⟨rfl, hg2⟩
    · have hb : (cmpN x.t y.t == 0) = true := by simpa using hz2
      have HV := Lib.hid (show sameB x y = true by rw [HX.out]; simpa using ⟨HZZ.out, HN.out.1 hz2⟩)
      clear hz2
      go_wp2_with fail
      go_ret
      exact ⟨ret_bool (by first | exact HV.out.symm | (rw [HV.out]; first | assumption | rfl | simp [*])), hgw.out.trans hg2⟩
    · have hb : (cmpN x.t y.t == 0) = false := by simpa using hz2
      have HV := Lib.hid (show sameB x y = false by rw [HX.out]; simp only [decide_eq_false_iff_not]; exact fun h => hz2 (HN.out.2 h.2))
      clear hz2
      go_wp2_with fail
      go_ret
      exact ⟨ret_bool (by first | exact HV.out.symm | (rw [HV.out]; first | assumption | rfl | simp [*])), hgw.out.trans hg2⟩
  · have HR := Lib.hid (show sameB x y = false by rw [hxy]; simp only [decide_eq_false_iff_not]; exact fun h => hz ((cr_ord.zero _ _).2 h.1))
    have hb : (cmpR x.v y.v == 0) = false := by simpa using hz
    have HC := Lib.hid hcr
    clear hcr hxy
    go_enter Try.func15, Try.ntmps15
    go_wp2_with fail
    refine (HC.out _ _ _ (H1.out.ext (ex2 _ _ _ _ _)) (H3.out.ext (ex2 _ _ _ _ _))).mono ?_; rintro e w1 ⟨rfl, hg⟩
    go_wp2_with fail
    go_ret
    exact ⟨ret_bool HR.out.symm, (ex2 _ _ _ _ _).trans hg⟩
end Go.Proofs.Ytnckdopphimgoaa
/- The reference's SameRows. -/
namespace Go.Proofs.Ytnckdopphimgoaa
open Go.ChangeShapes Go.WideShapes Go.ChangeAt Go.RowKit

/-- SameRow over an elder world -/
theorem sameRowE (W0 : World) (x y : P) (w : World) (hx : RdRow W0 x) (hy : RdRow W0 y) (h : Ext W0 w) : Calls Try.prog 15 #[.agg #[x.h.x, x.h.y], .agg #[y.h.x, y.h.y]] w fun e w' => e = .returned (.bool (sameB x.r y.r)) ∧ (∀ b o, b < W0.heap.size → w'.cell? ⟨b, o, none⟩ = W0.cell? ⟨b, o, none⟩) ∧ Ext W0 w' :=
  heldE W0 (sameRow_ref x.r y.r _ _ _ _ w (hx.1.ext h) (hx.2.ext h) (hy.1.ext h) (hy.2.ext h)) h
def srB (a b : List R) : Bool := decide (a = b)
def SrR (w : World) (a b : List R) (i : Value) (wr : World) : Prop := ∃ k : Nat, k ≤ a.length ∧ i = .int .i64 k ∧ Hid (a.take k = b.take k) ∧ Ext w wr
theorem sr_no {a b : List R} {k : Nat} (ha : k < a.length) (hb : k < b.length) (h : a[k] ≠ b[k]) : srB a b = false := by
  unfold srB
  simp only [decide_eq_false_iff_not]
  rintro rfl
  exact h rfl
theorem sr_next {a b : List R} {k : Nat} (ha : k < a.length) (hb : k < b.length) (e : a.take k = b.take k) (h : a[k] = b[k]) : a.take (k + 1) = b.take (k + 1) := by
  rw [List.take_succ_eq_append_getElem ha, List.take_succ_eq_append_getElem hb, e, h]
end Go.Proofs.Ytnckdopphimgoaa
