/- Tuples of the call's own; the program's withPeriod. -/
import Derived.Test.YtnckdopphimgoaaGreatZz09
import Derived.Test.YtnckdopphimgoaaGreatZz18
import Derived.Test.YtnckdopphimgoaaGreatZz29
namespace Go.Proofs.YtnckdopphimgoaaGreat
open Go.ChangeShapes Go.WideShapes Go.ChangeAt Go.RowKit

/-- tuples of the call's own whose parts lie off -/
def OwnTs (W w : World) (v : Value) (l : List Tu) : Prop := ∃ ps : List TP, OwnG tT.e W w v ps ∧ (∀ p ∈ ps, RdT w p ∧ Off tT.e W w p.h.x ∧ Off tT.e W w p.h.y) ∧ tus ps = l
theorem OwnTs.nil {W w : World} (h : Ext W w) : OwnTs W w (.slice none 0 0) [] := ⟨[], OwnG.nil _ _ _ h, fun p hp => (by cases hp), rfl⟩
theorem OwnTs.ext {W w w' : World} {v : Value} {l : List Tu} (h : OwnTs W w v l) (k : Ext w w') : OwnTs W w' v l := by
  obtain ⟨ps, h1, h2, h3⟩ := h
  exact ⟨ps, h1.ext k, fun p hp => ⟨(h2 p hp).1.ext k, (h2 p hp).2.1.ext k, (h2 p hp).2.2.ext k⟩, h3⟩
theorem OwnTs.blk {W w : World} {v : Value} {l : List Tu} (h : OwnTs W w v l) : RowBlk tT.e W w v.ownBlock := by
  obtain ⟨ps, h1, _, _⟩ := h; exact h1.blk
theorem OwnTs.old {W w : World} {v : Value} {l : List Tu} (h : OwnTs W w v l) : Ext W w := by
  obtain ⟨ps, h1, _, _⟩ := h; exact h1.2
theorem OwnTs.lt {W w : World} {v : Value} {l : List Tu} (h : OwnTs W w v l) (g : Nat) (hg : v.ownBlock = some g) : g < w.heap.size := by
  obtain ⟨ps, h1, _, _⟩ := h; exact h1.lt g hg
theorem RdT.grw {W w w' : World} {p : TP} {b : Option Nat} (h : RdT w p ∧ Off tT.e W w p.h.x ∧ Off tT.e W w p.h.y) (k : Grw w w' b) (hb : RowBlk tT.e W w b) : RdT w' p ∧ Off tT.e W w' p.h.x ∧ Off tT.e W w' p.h.y :=
  ⟨⟨h.1.1.grw h.2.1 k hb, h.1.2.grw h.2.2 k hb⟩, h.2.1.grw k hb, h.2.2.grw k hb⟩
/-- another row grows -/
theorem OwnTs.grw {W w w' : World} {v : Value} {l : List Tu} {b : Option Nat} (h : OwnTs W w v l) (k : Grw w w' b) (hb : RowBlk tT.e W w b) (hs : v.ownBlock = none ∨ v.ownBlock ≠ b) : OwnTs W w' v l := by
  obtain ⟨ps, h1, h2, h3⟩ := h
  exact ⟨ps, h1.grw k hb hs, fun p hp => RdT.grw (h2 p hp) k hb, h3⟩
/-- one row more, its parts lying off -/
theorem OwnTs.more {W w w' : World} {v v' : Value} {l : List Tu} {ps : List TP} {p : TP} (h1 : OwnG tT.e W w v ps) (h2 : ∀ p ∈ ps, RdT w p ∧ Off tT.e W w p.h.x ∧ Off tT.e W w p.h.y) (h3 : tus ps = l) (hp : RdT w p ∧ Off tT.e W w p.h.x ∧ Off tT.e W w p.h.y)
    (ho : OwnG tT.e W w' v' (ps ++ [p])) (hg : w.grownBy w' v.ownBlock) : OwnTs W w' v' (l ++ [p.tu]) := by
  refine ⟨ps ++ [p], ho, fun q hq => ?_, by rw [tus_app, h3]; rfl⟩
  rcases List.mem_append.1 hq with hq | hq
  · exact RdT.grw (h2 q hq) (grw_by hg) h1.blk
  · obtain rfl := List.mem_singleton.1 hq
    exact RdT.grw hp (grw_by hg) h1.blk
theorem OwnTs.rd {W w : World} {v : Value} {l : List Tu} (h : OwnTs W w v l) : ∃ ps, RdG w v ps ∧ RdTs w ps ∧ tus ps = l := by
  obtain ⟨ps, h1, h2, h3⟩ := h
  exact ⟨ps, h1.rd, fun p hp => (h2 p hp).1, h3⟩
def WpP (w : World) (x : R) (a b : Int) (e : Ending) (w' : World) : Prop := ∃ h : Hd, e = .returned (.agg #[h.x, .int .i64 a, .int .i64 b, h.y]) ∧ OwnG tV.e w w' h.x x.v ∧ OwnG tI.e w w' h.y x.t
set_option maxHeartbeats 8000000 in
set_option maxRecDepth 100000 in
theorem withP_prg (x : P) (a b : Int) (w : World) (h : RdRow w x) (hs : x.r.v.length ≤ 1000000 ∧ x.r.t.length ≤ 1000000) : Calls Tryz.prog 31 #[.agg #[x.h.x, x.h.y], pv a b] w (WpP w x.r a b) := by
  have hcv := fun w2 (hg : Ext w w2) => clone_V x.r.v _ w2 (h.1.ext hg) hs.1
  have hci := fun w2 (hg : Ext w w2) => clone_I x.r.t _ w2 (h.2.ext hg) hs.2
  obtain ⟨⟨xa, xn, xc, xb, xm, xd⟩, xr⟩ := x
  simp only [Hd.x, Hd.y] at hcv hci ⊢
  have HV := Lib.hid hcv
  have HC := Lib.hid hci
  clear hcv hci h hs
  go_enter Tryz.func31, Tryz.ntmps31
  go_wp2_with fail
  have hX1 : Ext w (w.alloc (.cells #[.slice xa xn xc, .slice xb xm xd] 36)) := (Ext.refl _).alloc _ _
  have hX2 : Ext (w.alloc (.cells #[.slice xa xn xc, .slice xb xm xd] 36)) ((w.alloc (.cells #[.slice xa xn xc, .slice xb xm xd] 36)).alloc (.cells #[.int .i64 a, .int .i64 b] 40)) := (Ext.refl _).alloc _ _
  have hX3 : Ext ((w.alloc (.cells #[.slice xa xn xc, .slice xb xm xd] 36)).alloc (.cells #[.int .i64 a, .int .i64 b] 40)) (((w.alloc (.cells #[.slice xa xn xc, .slice xb xm xd] 36)).alloc (.cells #[.int .i64 a, .int .i64 b] 40)).alloc (.cells #[.slice none 0 0, .int .i64 0, .int .i64 0, .slice none 0 0] 42)) := (Ext.refl _).alloc _ _
  have b0 := (hX2.trans hX3).keeps (al0 w (.slice xa xn xc) (.slice xb xm xd) 36)
  have b1 := (hX2.trans hX3).keeps (al1 w (.slice xa xn xc) (.slice xb xm xd) 36)
  have b2 := hX3.keeps (al0 (w.alloc (.cells #[.slice xa xn xc, .slice xb xm xd] 36)) (.int .i64 a) (.int .i64 b) 40)
  have b3 := hX3.keeps (al1 (w.alloc (.cells #[.slice xa xn xc, .slice xb xm xd] 36)) (.int .i64 a) (.int .i64 b) 40)
  obtain ⟨b4, b5, b6, b7⟩ := box4 ((w.alloc (.cells #[.slice xa xn xc, .slice xb xm xd] 36)).alloc (.cells #[.int .i64 a, .int .i64 b] 40)) (.slice none 0 0) (.int .i64 0) (.int .i64 0) (.slice none 0 0) 42
  have b8 : (((w.alloc (.cells #[.slice xa xn xc, .slice xb xm xd] 36)).alloc (.cells #[.int .i64 a, .int .i64 b] 40)).alloc (.cells #[.slice none 0 0, .int .i64 0, .int .i64 0, .slice none 0 0] 42)).frozen? ⟨w.heap.size + 1 + 1, 0, none⟩ = false := World.frozen?_alloc_at _ _ _ _ (by rw [alsz, alsz])
  have b9 : (((w.alloc (.cells #[.slice xa xn xc, .slice xb xm xd] 36)).alloc (.cells #[.int .i64 a, .int .i64 b] 40)).alloc (.cells #[.slice none 0 0, .int .i64 0, .int .i64 0, .slice none 0 0] 42)).frozen? ⟨w.heap.size + 1 + 1, 1, none⟩ = false := World.frozen?_alloc_at _ _ _ _ (by rw [alsz, alsz])
  have b10 : (((w.alloc (.cells #[.slice xa xn xc, .slice xb xm xd] 36)).alloc (.cells #[.int .i64 a, .int .i64 b] 40)).alloc (.cells #[.slice none 0 0, .int .i64 0, .int .i64 0, .slice none 0 0] 42)).frozen? ⟨w.heap.size + 1 + 1, 2, none⟩ = false := World.frozen?_alloc_at _ _ _ _ (by rw [alsz, alsz])
  have b11 : (((w.alloc (.cells #[.slice xa xn xc, .slice xb xm xd] 36)).alloc (.cells #[.int .i64 a, .int .i64 b] 40)).alloc (.cells #[.slice none 0 0, .int .i64 0, .int .i64 0, .slice none 0 0] 42)).frozen? ⟨w.heap.size + 1 + 1, 3, none⟩ = false := World.frozen?_alloc_at _ _ _ _ (by rw [alsz, alsz])
  rw [alsz] at b2 b3
  rw [alsz, alsz] at b4 b5 b6 b7
  have hX := (hX1.trans hX2).trans hX3
  clear hX1 hX2 hX3
  generalize ((w.alloc (.cells #[.slice xa xn xc, .slice xb xm xd] 36)).alloc (.cells #[.int .i64 a, .int .i64 b] 40)).alloc (.cells #[.slice none 0 0, .int .i64 0, .int .i64 0, .slice none 0 0] 42) = w0 at *
  have K0 := Lib.hid b0
  have K1 := Lib.hid b1
  have K2 := Lib.hid b2
  have K3 := Lib.hid b3
  have K4 := Lib.hid b4
  have K5 := Lib.hid b5
  have K6 := Lib.hid b6
  have K7 := Lib.hid b7
  have K8 := Lib.hid b8
  have K9 := Lib.hid b9
  have K10 := Lib.hid b10
  have K11 := Lib.hid b11
  have HX := Lib.hid hX
  have hB : w.heap.size + 1 + 1 < w0.heap.size := World.block_lt_of_cell? _ _ b4
  have HB := Lib.hid hB
  clear hX b0 b1 b2 b3 b4 b5 b6 b7 b8 b9 b10 b11
  have HSET := Lib.hid (show ∀ (X : World) (p q r s : Value), (X.cell? ⟨w.heap.size, 0, none⟩ = some (.slice xa xn xc) ∧ X.cell? ⟨w.heap.size, 1, none⟩ = some (.slice xb xm xd) ∧ X.cell? ⟨w.heap.size + 1, 0, none⟩ = some (.int .i64 a) ∧ X.cell? ⟨w.heap.size + 1, 1, none⟩ = some (.int .i64 b)) → (((((X.setCell ⟨w.heap.size + 1 + 1, 0, none⟩ p).setCell ⟨w.heap.size + 1 + 1, 1, none⟩ q).setCell ⟨w.heap.size + 1 + 1, 2, none⟩ r).setCell ⟨w.heap.size + 1 + 1, 3, none⟩ s).cell? ⟨w.heap.size, 0, none⟩ = some (.slice xa xn xc) ∧ ((((X.setCell ⟨w.heap.size + 1 + 1, 0, none⟩ p).setCell ⟨w.heap.size + 1 + 1, 1, none⟩ q).setCell ⟨w.heap.size + 1 + 1, 2, none⟩ r).setCell ⟨w.heap.size + 1 + 1, 3, none⟩ s).cell? ⟨w.heap.size, 1, none⟩ = some (.slice xb xm xd) ∧ ((((X.setCell ⟨w.heap.size + 1 + 1, 0, none⟩ p).setCell ⟨w.heap.size + 1 + 1, 1, none⟩ q).setCell ⟨w.heap.size + 1 + 1, 2, none⟩ r).setCell ⟨w.heap.size + 1 + 1, 3, none⟩ s).cell? ⟨w.heap.size + 1, 0, none⟩ = some (.int .i64 a) ∧ ((((X.setCell ⟨w.heap.size + 1 + 1, 0, none⟩ p).setCell ⟨w.heap.size + 1 + 1, 1, none⟩ q).setCell ⟨w.heap.size + 1 + 1, 2, none⟩ r).setCell ⟨w.heap.size + 1 + 1, 3, none⟩ s).cell? ⟨w.heap.size + 1, 1, none⟩ = some (.int .i64 b)) from fun X p q r s h => ⟨set4_cell (by omega) h.1, set4_cell (by omega) h.2.1, set4_cell (by omega) h.2.2.1, set4_cell (by omega) h.2.2.2⟩)
  have HDRW := Lib.hid (show ∀ X : World, (X.cell? ⟨w.heap.size, 0, none⟩ = some (.slice xa xn xc) ∧ X.cell? ⟨w.heap.size, 1, none⟩ = some (.slice xb xm xd) ∧ X.cell? ⟨w.heap.size + 1, 0, none⟩ = some (.int .i64 a) ∧ X.cell? ⟨w.heap.size + 1, 1, none⟩ = some (.int .i64 b)) → (X.drew.cell? ⟨w.heap.size, 0, none⟩ = some (.slice xa xn xc) ∧ X.drew.cell? ⟨w.heap.size, 1, none⟩ = some (.slice xb xm xd) ∧ X.drew.cell? ⟨w.heap.size + 1, 0, none⟩ = some (.int .i64 a) ∧ X.drew.cell? ⟨w.heap.size + 1, 1, none⟩ = some (.int .i64 b)) from fun X h => h)
  have HS0 := Lib.hid (show w0.cell? ⟨w.heap.size, 0, none⟩ = some (.slice xa xn xc) ∧ w0.cell? ⟨w.heap.size, 1, none⟩ = some (.slice xb xm xd) ∧ w0.cell? ⟨w.heap.size + 1, 0, none⟩ = some (.int .i64 a) ∧ w0.cell? ⟨w.heap.size + 1, 1, none⟩ = some (.int .i64 b) from ⟨K0.out, K1.out, K2.out, K3.out⟩)
  go_region_held3 (fun X => X.cell? ⟨w.heap.size, 0, none⟩ = some (.slice xa xn xc) ∧ X.cell? ⟨w.heap.size, 1, none⟩ = some (.slice xb xm xd) ∧ X.cell? ⟨w.heap.size + 1, 0, none⟩ = some (.int .i64 a) ∧ X.cell? ⟨w.heap.size + 1, 1, none⟩ = some (.int .i64 b)) (first | with_reducible exact HS0.out | with_reducible exact hsf | with_reducible exact hsg | with_reducible exact HDRW.out _ (by assumption) | with_reducible exact HSET.out _ _ _ _ _ (by assumption) | with_reducible exact HDRW.out _ HS0.out)
    (first | (go_at_call 49; refine (HV.out _ ?_).mono ?_; (first | exact HX.out | exact HX.out.drew); rintro e w3 ⟨v3, rfl, hO3⟩; obtain ⟨a3, c3, rfl, _, _⟩ := hO3.rd.shape; have e3 : Ext w0 w3 := ⟨hO3.2.1, hO3.2.2.1, hO3.2.2.2⟩; have hO3' : OwnG tV.e w0 w3 (.slice a3 xr.v.length c3) xr.v := ⟨hO3.1, e3⟩; have HO3 := Lib.hid hO3'; clear hO3 hO3'; have f0 := e3.keeps K0.out; have f1 := e3.keeps K1.out; have f2 := e3.keeps K2.out; have f3 := e3.keeps K3.out; have f4 := e3.keeps K4.out; have f5 := e3.keeps K5.out; have f6 := e3.keeps K6.out; have f7 := e3.keeps K7.out; have f8 := (e3.2.1 ⟨w.heap.size + 1 + 1, 0, none⟩ HB.out).trans K8.out; have f9 := (e3.2.1 ⟨w.heap.size + 1 + 1, 1, none⟩ HB.out).trans K9.out; have f10 := (e3.2.1 ⟨w.heap.size + 1 + 1, 2, none⟩ HB.out).trans K10.out; have f11 := (e3.2.1 ⟨w.heap.size + 1 + 1, 3, none⟩ HB.out).trans K11.out; have hsf : w3.cell? ⟨w.heap.size, 0, none⟩ = some (.slice xa xn xc) ∧ w3.cell? ⟨w.heap.size, 1, none⟩ = some (.slice xb xm xd) ∧ w3.cell? ⟨w.heap.size + 1, 0, none⟩ = some (.int .i64 a) ∧ w3.cell? ⟨w.heap.size + 1, 1, none⟩ = some (.int .i64 b) := ⟨f0, f1, f2, f3⟩) | (go_at_call 50; refine (HC.out _ ?_).mono ?_; (first | exact HX.out.trans e3 | exact (HX.out.trans e3).drew); rintro e w4 ⟨v4, rfl, hO4⟩; obtain ⟨a4, c4, rfl, _, _⟩ := hO4.rd.shape; have e4 : Ext w3 w4 := ⟨hO4.2.1, hO4.2.2.1, hO4.2.2.2⟩; have hO4' : OwnG tI.e w3 w4 (.slice a4 xr.t.length c4) xr.t := ⟨hO4.1, e4⟩; have HO4 := Lib.hid hO4'; clear hO4 hO4'; have g0 := e4.keeps f0; have g1 := e4.keeps f1; have g2 := e4.keeps f2; have g3 := e4.keeps f3; have g4 := e4.keeps f4; have g5 := e4.keeps f5; have g6 := e4.keeps f6; have g7 := e4.keeps f7; have hb3 : w.heap.size + 1 + 1 < w3.heap.size := Nat.lt_of_lt_of_le HB.out e3.2.2; have hb4 : w.heap.size + 1 + 1 < w4.heap.size := Nat.lt_of_lt_of_le hb3 e4.2.2; have g8 := (e4.2.1 ⟨w.heap.size + 1 + 1, 0, none⟩ hb3).trans f8; have g9 := (e4.2.1 ⟨w.heap.size + 1 + 1, 1, none⟩ hb3).trans f9; have g10 := (e4.2.1 ⟨w.heap.size + 1 + 1, 2, none⟩ hb3).trans f10; have g11 := (e4.2.1 ⟨w.heap.size + 1 + 1, 3, none⟩ hb3).trans f11; have hsg : w4.cell? ⟨w.heap.size, 0, none⟩ = some (.slice xa xn xc) ∧ w4.cell? ⟨w.heap.size, 1, none⟩ = some (.slice xb xm xd) ∧ w4.cell? ⟨w.heap.size + 1, 0, none⟩ = some (.int .i64 a) ∧ w4.cell? ⟨w.heap.size + 1, 1, none⟩ = some (.int .i64 b) := ⟨g0, g1, g2, g3⟩))
  all_goals
    go_wp2_with fail
    have O3 := (HO3.out.base HX.out).ext e4
    have O4 := HO4.out.base (HX.out.trans HO3.out.2)
    have N3 := own_ne HO3.out (w.heap.size + 1 + 1) HB.out
    have N4 := own_ne HO4.out (w.heap.size + 1 + 1) hb3
    exact bodyPost_ret (v := .agg #[.slice a3 xr.v.length c3, .int .i64 a, .int .i64 b, .slice a4 xr.t.length c4]) (by simp [results, Tryz.results31, go_sem, g4, g5, g6, g7]) rfl ⟨⟨a3, xr.v.length, c3, a4, xr.t.length, c4⟩, rfl, own_set4 O3 (w.heap.size + 1 + 1) _ _ _ _ (by omega) N3, own_set4 O4 (w.heap.size + 1 + 1) _ _ _ _ (by omega) N4⟩
end Go.Proofs.YtnckdopphimgoaaGreat
/- The program's Normalize. -/
namespace Go.Proofs.YtnckdopphimgoaaGreat
open Go.ChangeShapes Go.WideShapes Go.ChangeAt Go.RowKit

def SmT (ps : List TP) : Prop := ∀ p ∈ ps, p.r.v.length ≤ 1000000 ∧ p.r.t.length ≤ 1000000
theorem nf_from {l N : List Tu} (h : IsNf (ats l) N) : ∀ x ∈ N, ∃ y ∈ l, y.r = x.r := by
  intro x hx
  have hm : (x.a, x.b) ∈ per N x.r := per_mem.2 hx
  have ho := (h.lam x.r).1 _ hm
  have hpos : 0 < ats N x.r x.a := cov_pos.2 ⟨_, hm, incB_yes.2 ⟨ho, by have := ho.2.1; simp only at this ⊢; omega⟩⟩
  rw [h.cnt] at hpos
  obtain ⟨p, hp, _⟩ := cov_pos.1 hpos
  exact ⟨_, per_mem.1 hp, rfl⟩
theorem SmT.nf {ps qs : List TP} (h : SmT ps) (k : IsNf (ats (tus ps)) (tus qs)) : SmT qs := by
  intro q hq
  obtain ⟨y, hy, e⟩ := nf_from k q.tu (List.mem_map.2 ⟨q, hq, rfl⟩)
  obtain ⟨p, hp, rfl⟩ := List.mem_map.1 hy
  have := h p hp
  simp only at e
  rw [e] at this
  exact this
def NzR (W : World) (l : List Tu) (vn i : Value) (wr : World) : Prop := ∃ k : Nat, k ≤ l.length ∧ i = .int .i64 k ∧ OwnTs W wr vn (l.take k)
def NzP (ps : List TP) (w : World) (e : Ending) (w' : World) : Prop := ∃ v' qs, e = .returned v' ∧ RdG w' v' qs ∧ RdTs w' qs ∧ IsNf (ats (tus ps)) (tus qs) ∧ qs.length ≤ ps.length ∧ Ext w w'
set_option maxHeartbeats 8000000 in
set_option maxRecDepth 100000 in
theorem norm_prg (ps : List TP) (v : Value) (w : World) (h : RdG w v ps) (hI : RdTs w ps) (hl : ps.length ≤ 100000) (hs : SmT ps) : Calls Tryz.prog 18 #[v] w (NzP ps w) := by
  have H := Lib.hid h
  have HI := Lib.hid hI
  have HL := Lib.hid hl
  have HS := Lib.hid hs
  clear h hI hl hs
  go_enter Tryz.func18, Tryz.ntmps18
  go_wp2_with fail
  refine (form_prg ps v w H.out HI.out HL.out).mono ?_; rintro e w1 ⟨v1, N, rfl, hO, hIN, hNf, hNl⟩
  have HNf := Lib.hid hNf
  have HNl := Lib.hid hNl
  have HSN := Lib.hid (HS.out.nf hNf)
  have HR := Lib.hid hO.rd
  have HIN := Lib.hid hIN
  have HEW := Lib.hid hO.2
  obtain ⟨ad, cap, rfl, h1, h2⟩ := hO.rd.shape
  unfold maxLen at h2
  obtain ⟨n, hn⟩ : ∃ n, n = N.length := ⟨_, rfl⟩
  have HN := Lib.hid hn
  have hn1 : n ≤ 100000 := by have := HL.out; omega
  rw [← hn] at HR h1
  simp only [← hn]
  clear hn hO hIN hNf hNl
  go_wp2_with fail
  go_loopw [3, 9] (NzR w1 (tus N)) (fun _ i _ => n - (intOf i).toNat)
  case atStart => exact ⟨0, Nat.zero_le _, rfl, by simpa using OwnTs.nil (Ext.refl w1)⟩
  case round =>
    obtain ⟨k, hk, rfl, hO⟩ := hrel
    rw [tus_len] at hk
    have hkn : k ≤ n := by rw [HN.out]; exact hk
    by_cases hlt : k < n
    · have hlt' : k < N.length := by rw [← HN.out]; exact hlt
      obtain ⟨g, o, rfl, c0', c1', c2', c3'⟩ := rd_T HR.out k hlt'
      have hWr := hO.old
      have c0 := hWr.keeps c0'
      have c1 := hWr.keeps c1'
      have c2 := hWr.keeps c2'
      have c3 := hWr.keeps c3'
      have hi0 : (0 : Int) ≤ (k : Int) := by omega
      have hi1 : (k : Int) < (n : Int) := by omega
      have hix := HIN.out N[k] (List.getElem_mem _)
      have hsx := HSN.out N[k] (List.getElem_mem _)
      have HE := Lib.hid (List.take_succ_eq_append_getElem (l := tus N) (i := k) (by rw [tus_len]; exact hlt'))
      rw [tus_at N k hlt'] at HE
      have hro := fun w2 => rowOf_gw N[k] w2
      have hwp := fun w2 (hg : Ext w1 w2) => withP_prg N[k].row N[k].a N[k].b w2 (hix.ext hg).row hsx
      clear c0' c1' c2' c3'
      generalize N[k] = x at *
      obtain ⟨⟨xa, xn, xc, xb, xm, xd⟩, xr, pa, pb⟩ := x
      simp only [Hd.x, Hd.y, tv] at c0 c1 c2 c3 hro hwp
      have HRO := Lib.hid hro
      have HWP := Lib.hid hwp
      obtain ⟨qs, hq1, hq2, hq3⟩ := hO
      have hqn : qs.length ≤ 100000 := by
        have e1 : (tus qs).length = qs.length := tus_len qs
        rw [hq3, List.length_take, tus_len] at e1
        omega
      clear hro hwp hix hsx
      obtain ⟨B0, B1, B2, B3⟩ := box4 wr (.slice xa xn xc) (.int .i64 pa) (.int .i64 pb) (.slice xb xm xd) 42
      have EX : Ext wr (wr.alloc (.cells #[.slice xa xn xc, .int .i64 pa, .int .i64 pb, .slice xb xm xd] 42)) := (Ext.refl wr).alloc _ _
      go_wp2_with fail
      generalize wr.alloc (.cells #[.slice xa xn xc, .int .i64 pa, .int .i64 pb, .slice xb xm xd] 42) = w0 at *
      have K0 := Lib.hid B0
      have K1 := Lib.hid B1
      have K2 := Lib.hid B2
      have K3 := Lib.hid B3
      have HW0 := Lib.hid (hWr.trans EX)
      have HQ := Lib.hid hq1
      have HQ2 := Lib.hid hq2
      have HQ3 := Lib.hid hq3
      have HQN := Lib.hid hqn
      have HEX := Lib.hid EX
      have HB := Lib.hid (fun g hg => hq1.lt g hg)
      have hb0 : wr.heap.size < w0.heap.size := World.block_lt_of_cell? _ _ B0
      clear c0 c1 c2 c3 hWr EX hq1 hq2 hq3 hqn B0 B1 B2 B3
      go_region_held3 (fun w' => w'.cell? ⟨wr.heap.size, 0, none⟩ = some (.slice xa xn xc) ∧ w'.cell? ⟨wr.heap.size, 1, none⟩ = some (.int .i64 pa) ∧ w'.cell? ⟨wr.heap.size, 2, none⟩ = some (.int .i64 pb) ∧ w'.cell? ⟨wr.heap.size, 3, none⟩ = some (.slice xb xm xd)) (first | exact ⟨K0.out, K1.out, K2.out, K3.out⟩ | exact ⟨f0, f1, f2, f3⟩ | exact ⟨g0, g1, g2, g3⟩ | exact ⟨EA.out.keeps g0, EA.out.keeps g1, EA.out.keeps g2, EA.out.keeps g3⟩ | exact ⟨r0, r1, r2, r3⟩ | go_keep)
        (first | (go_at_call 23; refine (HRO.out _).mono ?_; rintro e w3 ⟨rfl, hg3⟩; have e3 : Ext w0 w3 := ⟨hg3.ext.1, hg3.ext.2.1, hg3.ext.2.2⟩; have f0 := e3.keeps K0.out; have f1 := e3.keeps K1.out; have f2 := e3.keeps K2.out; have f3 := e3.keeps K3.out; clear hg3) | (go_at_call 31; refine (HWP.out _ ?_).mono ?_; (first | exact HW0.out.trans e3 | exact (HW0.out.trans e3).drew); rintro e w4 ⟨⟨ya, yn, yc, yb, ym, yd⟩, rfl, o1, o2⟩; have e4 : Ext w3 w4 := ⟨o1.2.1, o1.2.2.1, o1.2.2.2⟩; have g0 := e4.keeps f0; have g1 := e4.keeps f1; have g2 := e4.keeps f2; have g3 := e4.keeps f3; have HO1 := Lib.hid o1; have HO2 := Lib.hid o2; have EA := Lib.hid ((Ext.refl w4).alloc #[Value.slice ya yn yc, .int .i64 pa, .int .i64 pb, Value.slice yb ym yd] 42); have HQ4 := Lib.hid (HQ.out.ext (HEX.out.trans (e3.trans (e4.trans EA.out)))); clear o1 o2) | (refine step_appGL tT rfl _ _ rfl w1 _ qs rfl ?a1 _ [(⟨⟨ya, yn, yc, yb, ym, yd⟩, xr, pa, pb⟩ : TP)] rfl ?a2 ?a3 ?_; (case a1 => exact HQ4.out); (case a2 => exact rd_litG w4 [(⟨⟨ya, yn, yc, yb, ym, yd⟩, xr, pa, pb⟩ : TP)] #[Value.slice ya yn yc, .int .i64 pa, .int .i64 pb, Value.slice yb ym yd] 42 _ 1 rfl rfl (by simp) rfl); (case a3 => have := HQN.out; simp; omega); intro v5 w5 hO5 hg5 hl5; have r0 := grow_cell hg5 (EA.out.keeps g0) (fun kk hh => by have := HB.out kk hh; omega); have r1 := grow_cell hg5 (EA.out.keeps g1) (fun kk hh => by have := HB.out kk hh; omega); have r2 := grow_cell hg5 (EA.out.keeps g2) (fun kk hh => by have := HB.out kk hh; omega); have r3 := grow_cell hg5 (EA.out.keeps g3) (fun kk hh => by have := HB.out kk hh; omega)))
      all_goals
        have hEL := HEX.out.trans (e3.trans (e4.trans EA.out))
        have hOT := Lib.hid (OwnTs.more HQ4.out (fun p hp => ⟨(HQ2.out p hp).1.ext hEL, (HQ2.out p hp).2.1.ext hEL, (HQ2.out p hp).2.2.ext hEL⟩) HQ3.out (p := (⟨⟨ya, yn, yc, yb, ym, yd⟩, xr, pa, pb⟩ : TP)) ⟨⟨HO1.out.rd.ext EA.out, HO2.out.rd.ext EA.out⟩, (HO1.out.off (by decide)).ext EA.out, (HO2.out.off (by decide)).ext EA.out⟩ hO5 hg5)
        clear hEL
        go_wp2_with fail
        go_roundw
        case rel => exact ⟨k + 1, by rw [tus_len]; exact hlt', by go_num, by rw [HE.out]; exact hOT.out⟩
        case measure => first | (simp [intOf]; done) | (simp [intOf]; omega)
    · have hke : k = n := by omega
      have hall : (tus N).take k = tus N := by rw [List.take_of_length_le]; rw [tus_len, ← HN.out, hke]; exact Nat.le_refl _
      rw [hall] at hO
      have HO := Lib.hid hO
      clear hO hall
      go_wp2_with fail
      go_ret
      obtain ⟨qs, q1, q2, q3⟩ := HO.out
      exact ⟨_, qs, rfl, q1.rd, fun p hp => (q2 p hp).1, by rw [q3]; exact HNf.out, by have e1 := tus_len qs; rw [q3, tus_len] at e1; rw [← e1]; exact HNl.out, HEW.out.trans q1.2⟩
end Go.Proofs.YtnckdopphimgoaaGreat
