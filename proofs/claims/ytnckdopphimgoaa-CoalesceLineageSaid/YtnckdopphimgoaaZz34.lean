/- Tuples of the call's own; the program's withPeriod. -/
import Derived.Test.YtnckdopphimgoaaZz13
import Derived.Test.YtnckdopphimgoaaZz20
import Derived.Test.YtnckdopphimgoaaZz33
namespace Go.Proofs.Ytnckdopphimgoaa
open Go.ChangeShapes Go.WideShapes Go.ChangeAt Go.RowKit

/-- tuples of the call's own whose parts lie off -/
def OwnTs (W w : World) (v : Value) (l : List Tu) : Prop := ∃ ps : List TP, OwnG tT.e W w v ps ∧ (∀ p ∈ ps, RdT w p ∧ Off tT.e W w p.h.x ∧ Off tT.e W w p.h.y) ∧ tus ps = l
theorem OwnTs.nil {W w : World} (h : Ext W w) : OwnTs W w (.slice none 0 0) [] := ⟨[], OwnG.nil _ _ _ h, fun p hp => (by cases hp), rfl⟩
theorem OwnTs.ext {W w w' : World} {v : Value} {l : List Tu} (h : OwnTs W w v l) (k : Ext w w') : OwnTs W w' v l := by
  obtain ⟨ps, h1, h2, h3⟩ := h
  exact ⟨ps, h1.ext k, fun p hp => ⟨(h2 p hp).1.ext k, (h2 p hp).2.1.ext k, (h2 p hp).2.2.ext k⟩, h3⟩
theorem OwnTs.blk {W w : World} {v : Value} {l : List Tu} (h : OwnTs W w v l) : RowBlk tT.e W w v.ownBlock := by
  obtain ⟨ps, h1, _, _⟩ := h; exact h1.blk
theorem OwnTs.old {W w : World} {v : Value} {l : List Tu} (h : OwnTs W w v l) : Ext W w := by
  obtain ⟨ps, h1, _, _⟩ := h; exact h1.2
theorem OwnTs.lt {W w : World} {v : Value} {l : List Tu} (h : OwnTs W w v l) (g : Nat) (hg : v.ownBlock = some g) : g < w.heap.size := by
  obtain ⟨ps, h1, _, _⟩ := h; exact h1.lt g hg
theorem RdT.grw {W w w' : World} {p : TP} {b : Option Nat} (h : RdT w p ∧ Off tT.e W w p.h.x ∧ Off tT.e W w p.h.y) (k : Grw w w' b) (hb : RowBlk tT.e W w b) : RdT w' p ∧ Off tT.e W w' p.h.x ∧ Off tT.e W w' p.h.y :=
  ⟨⟨h.1.1.grw h.2.1 k hb, h.1.2.grw h.2.2 k hb⟩, h.2.1.grw k hb, h.2.2.grw k hb⟩
/-- another row grows -/
theorem OwnTs.grw {W w w' : World} {v : Value} {l : List Tu} {b : Option Nat} (h : OwnTs W w v l) (k : Grw w w' b) (hb : RowBlk tT.e W w b) (hs : v.ownBlock = none ∨ v.ownBlock ≠ b) : OwnTs W w' v l := by
  obtain ⟨ps, h1, h2, h3⟩ := h
  exact ⟨ps, h1.grw k hb hs, fun p hp => RdT.grw (h2 p hp) k hb, h3⟩
/-- one row more, its parts lying off -/
theorem OwnTs.more {W w w' : World} {v v' : Value} {l : List Tu} {ps : List TP} {p : TP} (h1 : OwnG tT.e W w v ps) (h2 : ∀ p ∈ ps, RdT w p ∧ Off tT.e W w p.h.x ∧ Off tT.e W w p.h.y) (h3 : tus ps = l) (hp : RdT w p ∧ Off tT.e W w p.h.x ∧ Off tT.e W w p.h.y)
    (ho : OwnG tT.e W w' v' (ps ++ [p])) (hg : w.grownBy w' v.ownBlock) : OwnTs W w' v' (l ++ [p.tu]) := by
  refine ⟨ps ++ [p], ho, fun q hq => ?_, by rw [tus_app, h3]; rfl⟩
  rcases List.mem_append.1 hq with hq | hq
  · exact RdT.grw (h2 q hq) (grw_by hg) h1.blk
  · obtain rfl := List.mem_singleton.1 hq
    exact RdT.grw hp (grw_by hg) h1.blk
theorem OwnTs.rd {W w : World} {v : Value} {l : List Tu} (h : OwnTs W w v l) : ∃ ps, RdG w v ps ∧ RdTs w ps ∧ tus ps = l := by
  obtain ⟨ps, h1, h2, h3⟩ := h
  exact ⟨ps, h1.rd, fun p hp => (h2 p hp).1, h3⟩
def WpP (w : World) (x : R) (a b : Int) (e : Ending) (w' : World) : Prop := ∃ h : Hd, e = .returned (.agg #[h.x, .int .i64 a, .int .i64 b, h.y]) ∧ OwnG tV.e w w' h.x x.v ∧ OwnG tI.e w w' h.y x.t
set_option maxHeartbeats 8000000 in
set_option maxRecDepth 100000 in
theorem withP_prg (x : P) (a b : Int) (w : World) (h : RdRow w x) (hs : x.r.v.length ≤ 1000000 ∧ x.r.t.length ≤ 1000000) : Calls Try.prog 18 #[.agg #[x.h.x, x.h.y], pv a b] w (WpP w x.r a b) := by
  have hcv := fun w2 (hg : Ext w w2) => clone_V x.r.v _ w2 (h.1.ext hg) hs.1
  have hci := fun w2 (hg : Ext w w2) => clone_I x.r.t _ w2 (h.2.ext hg) hs.2
  obtain ⟨⟨xa, xn, xc, xb, xm, xd⟩, xr⟩ := x
  simp only [Hd.x, Hd.y] at hcv hci ⊢
  have HV := Lib.hid hcv
  have HC := Lib.hid hci
  clear hcv hci h hs
  go_enter Try.func18, Try.ntmps18
  go_wp2_with fail
  have hX1 : Ext w (w.alloc (.cells #[.slice xa xn xc, .slice xb xm xd] 47)) := (Ext.refl _).alloc _ _
  have hX2 : Ext (w.alloc (.cells #[.slice xa xn xc, .slice xb xm xd] 47)) ((w.alloc (.cells #[.slice xa xn xc, .slice xb xm xd] 47)).alloc (.cells #[.int .i64 a, .int .i64 b] 28)) := (Ext.refl _).alloc _ _
  have hX3 : Ext ((w.alloc (.cells #[.slice xa xn xc, .slice xb xm xd] 47)).alloc (.cells #[.int .i64 a, .int .i64 b] 28)) (((w.alloc (.cells #[.slice xa xn xc, .slice xb xm xd] 47)).alloc (.cells #[.int .i64 a, .int .i64 b] 28)).alloc (.cells #[.slice none 0 0, .int .i64 0, .int .i64 0, .slice none 0 0] 31)) := (Ext.refl _).alloc _ _
  have b0 := (hX2.trans hX3).keeps (al0 w (.slice xa xn xc) (.slice xb xm xd) 47)
  have b1 := (hX2.trans hX3).keeps (al1 w (.slice xa xn xc) (.slice xb xm xd) 47)
  have b2 := hX3.keeps (al0 (w.alloc (.cells #[.slice xa xn xc, .slice xb xm xd] 47)) (.int .i64 a) (.int .i64 b) 28)
  have b3 := hX3.keeps (al1 (w.alloc (.cells #[.slice xa xn xc, .slice xb xm xd] 47)) (.int .i64 a) (.int .i64 b) 28)
  obtain ⟨b4, b5, b6, b7⟩ := box4 ((w.alloc (.cells #[.slice xa xn xc, .slice xb xm xd] 47)).alloc (.cells #[.int .i64 a, .int .i64 b] 28)) (.slice none 0 0) (.int .i64 0) (.int .i64 0) (.slice none 0 0) 31
  have b8 : (((w.alloc (.cells #[.slice xa xn xc, .slice xb xm xd] 47)).alloc (.cells #[.int .i64 a, .int .i64 b] 28)).alloc (.cells #[.slice none 0 0, .int .i64 0, .int .i64 0, .slice none 0 0] 31)).frozen? ⟨w.heap.size + 1 + 1, 0, none⟩ = false := World.frozen?_alloc_at _ _ _ _ (by rw [alsz, alsz])
  have b9 : (((w.alloc (.cells #[.slice xa xn xc, .slice xb xm xd] 47)).alloc (.cells #[.int .i64 a, .int .i64 b] 28)).alloc (.cells #[.slice none 0 0, .int .i64 0, .int .i64 0, .slice none 0 0] 31)).frozen? ⟨w.heap.size + 1 + 1, 1, none⟩ = false := World.frozen?_alloc_at _ _ _ _ (by rw [alsz, alsz])
  have b10 : (((w.alloc (.cells #[.slice xa xn xc, .slice xb xm xd] 47)).alloc (.cells #[.int .i64 a, .int .i64 b] 28)).alloc (.cells #[.slice none 0 0, .int .i64 0, .int .i64 0, .slice none 0 0] 31)).frozen? ⟨w.heap.size + 1 + 1, 2, none⟩ = false := World.frozen?_alloc_at _ _ _ _ (by rw [alsz, alsz])
  have b11 : (((w.alloc (.cells #[.slice xa xn xc, .slice xb xm xd] 47)).alloc (.cells #[.int .i64 a, .int .i64 b] 28)).alloc (.cells #[.slice none 0 0, .int .i64 0, .int .i64 0, .slice none 0 0] 31)).frozen? ⟨w.heap.size + 1 + 1, 3, none⟩ = false := World.frozen?_alloc_at _ _ _ _ (by rw [alsz, alsz])
  rw [alsz] at b2 b3
  rw [alsz, alsz] at b4 b5 b6 b7
  have hX := (hX1.trans hX2).trans hX3
  clear hX1 hX2 hX3
  generalize ((w.alloc (.cells #[.slice xa xn xc, .slice xb xm xd] 47)).alloc (.cells #[.int .i64 a, .int .i64 b] 28)).alloc (.cells #[.slice none 0 0, .int .i64 0, .int .i64 0, .slice none 0 0] 31) = w0 at *
  have K0 := Lib.hid b0
  have K1 := Lib.hid b1
  have K2 := Lib.hid b2
  have K3 := Lib.hid b3
  have K4 := Lib.hid b4
  have K5 := Lib.hid b5
  have K6 := Lib.hid b6
  have K7 := Lib.hid b7
  have K8 := Lib.hid b8
  have K9 := Lib.hid b9
  have K10 := Lib.hid b10
  have K11 := Lib.hid b11
  have HX := Lib.hid hX
  have hB : w.heap.size + 1 + 1 < w0.heap.size := World.block_lt_of_cell? _ _ b4
  have HB := Lib.hid hB
  clear hX b0 b1 b2 b3 b4 b5 b6 b7 b8 b9 b10 b11
  have HSET := Lib.hid (show ∀ (X : World) (p q r s : Value), (X.cell? ⟨w.heap.size, 0, none⟩ = some (.slice xa xn xc) ∧ X.cell? ⟨w.heap.size, 1, none⟩ = some (.slice xb xm xd) ∧ X.cell? ⟨w.heap.size + 1, 0, none⟩ = some (.int .i64 a) ∧ X.cell? ⟨w.heap.size + 1, 1, none⟩ = some (.int .i64 b)) → (((((X.setCell ⟨w.heap.size + 1 + 1, 0, none⟩ p).setCell ⟨w.heap.size + 1 + 1, 1, none⟩ q).setCell ⟨w.heap.size + 1 + 1, 2, none⟩ r).setCell ⟨w.heap.size + 1 + 1, 3, none⟩ s).cell? ⟨w.heap.size, 0, none⟩ = some (.slice xa xn xc) ∧ ((((X.setCell ⟨w.heap.size + 1 + 1, 0, none⟩ p).setCell ⟨w.heap.size + 1 + 1, 1, none⟩ q).setCell ⟨w.heap.size + 1 + 1, 2, none⟩ r).setCell ⟨w.heap.size + 1 + 1, 3, none⟩ s).cell? ⟨w.heap.size, 1, none⟩ = some (.slice xb xm xd) ∧ ((((X.setCell ⟨w.heap.size + 1 + 1, 0, none⟩ p).setCell ⟨w.heap.size + 1 + 1, 1, none⟩ q).setCell ⟨w.heap.size + 1 + 1, 2, none⟩ r).setCell ⟨w.heap.size + 1 + 1, 3, none⟩ s).cell? ⟨w.heap.size + 1, 0, none⟩ = some (.int .i64 a) ∧ ((((X.setCell ⟨w.heap.size + 1 + 1, 0, none⟩ p).setCell ⟨w.heap.size + 1 + 1, 1, none⟩ q).setCell ⟨w.heap.size + 1 + 1, 2, none⟩ r).setCell ⟨w.heap.size + 1 + 1, 3, none⟩ s).cell? ⟨w.heap.size + 1, 1, none⟩ = some (.int .i64 b)) from fun X p q r s h => ⟨set4_cell (by omega) h.1, set4_cell (by omega) h.2.1, set4_cell (by omega) h.2.2.1, set4_cell (by omega) h.2.2.2⟩)
  have HDRW := Lib.hid (show ∀ X : World, (X.cell? ⟨w.heap.size, 0, none⟩ = some (.slice xa xn xc) ∧ X.cell? ⟨w.heap.size, 1, none⟩ = some (.slice xb xm xd) ∧ X.cell? ⟨w.heap.size + 1, 0, none⟩ = some (.int .i64 a) ∧ X.cell? ⟨w.heap.size + 1, 1, none⟩ = some (.int .i64 b)) → (X.drew.cell? ⟨w.heap.size, 0, none⟩ = some (.slice xa xn xc) ∧ X.drew.cell? ⟨w.heap.size, 1, none⟩ = some (.slice xb xm xd) ∧ X.drew.cell? ⟨w.heap.size + 1, 0, none⟩ = some (.int .i64 a) ∧ X.drew.cell? ⟨w.heap.size + 1, 1, none⟩ = some (.int .i64 b)) from fun X h => h)
  have HS0 := Lib.hid (show w0.cell? ⟨w.heap.size, 0, none⟩ = some (.slice xa xn xc) ∧ w0.cell? ⟨w.heap.size, 1, none⟩ = some (.slice xb xm xd) ∧ w0.cell? ⟨w.heap.size + 1, 0, none⟩ = some (.int .i64 a) ∧ w0.cell? ⟨w.heap.size + 1, 1, none⟩ = some (.int .i64 b) from ⟨K0.out, K1.out, K2.out, K3.out⟩)
  go_region_held3 (fun X => X.cell? ⟨w.heap.size, 0, none⟩ = some (.slice xa xn xc) ∧ X.cell? ⟨w.heap.size, 1, none⟩ = some (.slice xb xm xd) ∧ X.cell? ⟨w.heap.size + 1, 0, none⟩ = some (.int .i64 a) ∧ X.cell? ⟨w.heap.size + 1, 1, none⟩ = some (.int .i64 b)) (first | with_reducible exact HS0.out | with_reducible exact hsf | with_reducible exact hsg | with_reducible exact HDRW.out _ (by assumption) | with_reducible exact HSET.out _ _ _ _ _ (by assumption) | with_reducible exact HDRW.out _ HS0.out)
    (first | (go_at_call 30; refine (HV.out _ ?_).mono ?_; (first | exact HX.out | exact HX.out.drew); rintro e w3 ⟨v3, rfl, hO3⟩; obtain ⟨a3, c3, rfl, _, _⟩ := hO3.rd.shape; have e3 : Ext w0 w3 := ⟨hO3.2.1, hO3.2.2.1, hO3.2.2.2⟩; have hO3' : OwnG tV.e w0 w3 (.slice a3 xr.v.length c3) xr.v := ⟨hO3.1, e3⟩; have HO3 := Lib.hid hO3'; clear hO3 hO3'; have f0 := e3.keeps K0.out; have f1 := e3.keeps K1.out; have f2 := e3.keeps K2.out; have f3 := e3.keeps K3.out; have f4 := e3.keeps K4.out; have f5 := e3.keeps K5.out; have f6 := e3.keeps K6.out; have f7 := e3.keeps K7.out; have f8 := (e3.2.1 ⟨w.heap.size + 1 + 1, 0, none⟩ HB.out).trans K8.out; have f9 := (e3.2.1 ⟨w.heap.size + 1 + 1, 1, none⟩ HB.out).trans K9.out; have f10 := (e3.2.1 ⟨w.heap.size + 1 + 1, 2, none⟩ HB.out).trans K10.out; have f11 := (e3.2.1 ⟨w.heap.size + 1 + 1, 3, none⟩ HB.out).trans K11.out; have hsf : w3.cell? ⟨w.heap.size, 0, none⟩ = some (.slice xa xn xc) ∧ w3.cell? ⟨w.heap.size, 1, none⟩ = some (.slice xb xm xd) ∧ w3.cell? ⟨w.heap.size + 1, 0, none⟩ = some (.int .i64 a) ∧ w3.cell? ⟨w.heap.size + 1, 1, none⟩ = some (.int .i64 b) := ⟨f0, f1, f2, f3⟩) | (go_at_call 31; refine (HC.out _ ?_).mono ?_; (first | exact HX.out.trans e3 | exact (HX.out.trans e3).drew); rintro e w4 ⟨v4, rfl, hO4⟩; obtain ⟨a4, c4, rfl, _, _⟩ := hO4.rd.shape; have e4 : Ext w3 w4 := ⟨hO4.2.1, hO4.2.2.1, hO4.2.2.2⟩; have hO4' : OwnG tI.e w3 w4 (.slice a4 xr.t.length c4) xr.t := ⟨hO4.1, e4⟩; have HO4 := Lib.hid hO4'; clear hO4 hO4'; have g0 := e4.keeps f0; have g1 := e4.keeps f1; have g2 := e4.keeps f2; have g3 := e4.keeps f3; have g4 := e4.keeps f4; have g5 := e4.keeps f5; have g6 := e4.keeps f6; have g7 := e4.keeps f7; have hb3 : w.heap.size + 1 + 1 < w3.heap.size := Nat.lt_of_lt_of_le HB.out e3.2.2; have hb4 : w.heap.size + 1 + 1 < w4.heap.size := Nat.lt_of_lt_of_le hb3 e4.2.2; have g8 := (e4.2.1 ⟨w.heap.size + 1 + 1, 0, none⟩ hb3).trans f8; have g9 := (e4.2.1 ⟨w.heap.size + 1 + 1, 1, none⟩ hb3).trans f9; have g10 := (e4.2.1 ⟨w.heap.size + 1 + 1, 2, none⟩ hb3).trans f10; have g11 := (e4.2.1 ⟨w.heap.size + 1 + 1, 3, none⟩ hb3).trans f11; have hsg : w4.cell? ⟨w.heap.size, 0, none⟩ = some (.slice xa xn xc) ∧ w4.cell? ⟨w.heap.size, 1, none⟩ = some (.slice xb xm xd) ∧ w4.cell? ⟨w.heap.size + 1, 0, none⟩ = some (.int .i64 a) ∧ w4.cell? ⟨w.heap.size + 1, 1, none⟩ = some (.int .i64 b) := ⟨g0, g1, g2, g3⟩))
  all_goals
    go_wp2_with fail
    have O3 := (HO3.out.base HX.out).ext e4
    have O4 := HO4.out.base (HX.out.trans HO3.out.2)
    have N3 := own_ne HO3.out (w.heap.size + 1 + 1) HB.out
    have N4 := own_ne HO4.out (w.heap.size + 1 + 1) hb3
    exact bodyPost_ret (v := .agg #[.slice a3 xr.v.length c3, .int .i64 a, .int .i64 b, .slice a4 xr.t.length c4]) (by simp [results, Try.results18, go_sem, g4, g5, g6, g7]) rfl ⟨⟨a3, xr.v.length, c3, a4, xr.t.length, c4⟩, rfl, own_set4 O3 (w.heap.size + 1 + 1) _ _ _ _ (by omega) N3, own_set4 O4 (w.heap.size + 1 + 1) _ _ _ _ (by omega) N4⟩
end Go.Proofs.Ytnckdopphimgoaa
