/- The program's orders of tuples and of periods; the same tuple. -/
import Derived.Shelf.SlSortCmp.QuietGrown
import Derived.BigQuiet
import Derived.Test.YtnckdopphimgoaaZz17
import Derived.Test.YtnckdopphimgoaaZz20
namespace Go.Proofs.Ytnckdopphimgoaa
open Go.ChangeShapes Go.WideShapes Go.ChangeAt Go.RowKit Go.Sort

set_option maxHeartbeats 2000000 in
set_option maxRecDepth 100000 in
theorem compT_gw (p q : TP) (w : World) (hp : RdT w p) (hq : RdT w q) :
    Calls Try.prog 27 #[tv p, tv q] w fun e w' => e = .returned (.int .i64 (cmpW p.r q.r)) ∧ Gw w w' := by
  have HP := Lib.hid hp
  have HQ := Lib.hid hq
  clear hp hq
  have hr1 := rowOf_gw p
  have hr2 := rowOf_gw q
  have hc := fun w2 (h : Ext w w2) => comp_gw p.r q.r p.h.x p.h.y q.h.x q.h.y w2 (HP.out.1.ext h) (HP.out.2.ext h) (HQ.out.1.ext h) (HQ.out.2.ext h)
  obtain ⟨⟨xa, xn, xc, xb, xm, xd⟩, xr, pa, pb⟩ := p
  obtain ⟨⟨ya, yn, yc, yb, ym, yd⟩, yr, qa, qb⟩ := q
  simp only [Hd.x, Hd.y, tv] at hr1 hr2 hc
  have HR1 := Lib.hid hr1
  have HR2 := Lib.hid hr2
  have HC := Lib.hid hc
  have MX := Lib.hid (show Try.prog.follows Departure.mixedOrders = true by kernel_rfl)
  clear hr1 hr2 hc HP HQ
  generalize cmpW xr yr = r at *
  go_enter Try.func27, Try.ntmps27
  go_wp2_with fail
  obtain ⟨b0, b1, b2, b3⟩ := box4 w (.slice xa xn xc) (.int .i64 pa) (.int .i64 pb) (.slice xb xm xd) 31
  obtain ⟨d0, d1, d2, d3⟩ := box4 (w.alloc (.cells #[.slice xa xn xc, .int .i64 pa, .int .i64 pb, .slice xb xm xd] 31)) (.slice ya yn yc) (.int .i64 qa) (.int .i64 qb) (.slice yb ym yd) 31
  have hX := gw2 w (.cells #[.slice xa xn xc, .int .i64 pa, .int .i64 pb, .slice xb xm xd] 31) (.cells #[.slice ya yn yc, .int .i64 qa, .int .i64 qb, .slice yb ym yd] 31)
  have hk : Ext (w.alloc (.cells #[.slice xa xn xc, .int .i64 pa, .int .i64 pb, .slice xb xm xd] 31)) ((w.alloc (.cells #[.slice xa xn xc, .int .i64 pa, .int .i64 pb, .slice xb xm xd] 31)).alloc (.cells #[.slice ya yn yc, .int .i64 qa, .int .i64 qb, .slice yb ym yd] 31)) := (Ext.refl _).alloc _ _
  have c0 := hk.keeps b0
  have c1 := hk.keeps b1
  have c2 := hk.keeps b2
  have c3 := hk.keeps b3
  rw [alsz] at d0 d1 d2 d3
  clear b0 b1 b2 b3 hk
  generalize (w.alloc (.cells #[.slice xa xn xc, .int .i64 pa, .int .i64 pb, .slice xb xm xd] 31)).alloc (.cells #[.slice ya yn yc, .int .i64 qa, .int .i64 qb, .slice yb ym yd] 31) = W at *
  have z0 : w.heap.size < W.heap.size := World.block_lt_of_cell? _ _ c0
  have z1 : w.heap.size + 1 < W.heap.size := World.block_lt_of_cell? _ _ d0
  have e0 := fun n os => cell_grown (a := ⟨w.heap.size, 0, none⟩) z0 c0 n os
  have e1 := fun n os => cell_grown (a := ⟨w.heap.size, 1, none⟩) z0 c1 n os
  have e2 := fun n os => cell_grown (a := ⟨w.heap.size, 2, none⟩) z0 c2 n os
  have e3 := fun n os => cell_grown (a := ⟨w.heap.size, 3, none⟩) z0 c3 n os
  have f0 := fun n os => cell_grown (a := ⟨w.heap.size + 1, 0, none⟩) z1 d0 n os
  have f1 := fun n os => cell_grown (a := ⟨w.heap.size + 1, 1, none⟩) z1 d1 n os
  have f2 := fun n os => cell_grown (a := ⟨w.heap.size + 1, 2, none⟩) z1 d2 n os
  have f3 := fun n os => cell_grown (a := ⟨w.heap.size + 1, 3, none⟩) z1 d3 n os
  have HX := Lib.hid hX
  clear c0 c1 c2 c3 d0 d1 d2 d3 hX z0 z1
  have HCC := Lib.hid (fun n os => HC.out (grow (W.drewN n) os) (HX.out.trans ⟨n, os, rfl⟩).ext)
  have mixed := MX.out
  refine wp_region_quiet_grown (by assumption) (by kernel_rfl) ?_
  repeat (first | quiet_step (first | (go_at_call 19; refine Calls.grown_of (HR1.out _)) | (go_at_call 19; refine Calls.grown_of (HR2.out _)) | (go_at_call 38; refine Calls.grown_of (HCC.out _ _))))
  refine wpQuiet_nil ?_
  intro _ hw'
  obtain ⟨⟨nq, osq⟩, hw''⟩ := hw'
  subst hw''
  clear mixed
  go_wp2_with fail
  go_ret
  exact ⟨rfl, HX.out.trans ⟨_, _, rfl⟩⟩
end Go.Proofs.Ytnckdopphimgoaa
/- The first that is not zero, of two; the program's order of periods. -/
namespace Go.Proofs.Ytnckdopphimgoaa
open Go.ChangeShapes Go.WideShapes Go.ChangeAt Go.RowKit Go.Sort

def or2 (a b : Int) : Int := if a = 0 then b else a
def OrR (a b : Int) (w : World) (i : Value) (wr : World) : Prop := ∃ k : Nat, k ≤ 2 ∧ i = .int .i64 k ∧ Hid ((1 ≤ k → a = 0) ∧ (2 ≤ k → b = 0)) ∧ wr = w
set_option maxHeartbeats 2000000 in
theorem or_gw (a b : Int) (v : Value) (w : World) (h : RdG w v [a, b]) : Calls Try.prog 56 #[v] w fun e w' => e = .returned (.int .i64 (or2 a b)) ∧ w' = w := by
  obtain ⟨ad, cap, rfl, h1, h2⟩ := h.shape
  obtain ⟨g, o, rfl, c0'⟩ := h.at 0 (by simp)
  obtain ⟨g', o', e', c1'⟩ := h.at 1 (by simp)
  simp only [Option.some.injEq, Addr.mk.injEq, and_true] at e'
  obtain ⟨rfl, rfl⟩ := e'
  have c0 := c0' 0 _ rfl
  have c1 := c1' 0 _ rfl
  simp only [Enc.sz, Nat.add_zero, List.getElem_cons_zero, List.getElem_cons_succ, Nat.zero_mul] at c0 c1
  clear c0' c1' h
  simp only [List.length_cons, List.length_nil] at h1 ⊢
  have K0 := Lib.hid c0
  have K1 := Lib.hid c1
  clear c0 c1
  go_enter Try.func56, Try.ntmps56
  go_wp2_with fail
  go_loopw [8] (OrR a b w) (fun i _ => 2 - (intOf i).toNat)
  case atStart => exact ⟨0, by omega, rfl, Lib.hid ⟨fun h => by omega, fun h => by omega⟩, rfl⟩
  case round =>
    obtain ⟨k, hk, rfl, HZ, rfl⟩ := hrel
    rcases (show k = 0 ∨ k = 1 ∨ k = 2 by omega) with rfl | rfl | rfl
    · have c0 := K0.out
      by_cases hz : a = 0
      · subst hz
        go_wp2_with fail
        go_roundw
        case rel => exact ⟨1, by omega, rfl, Lib.hid ⟨fun _ => rfl, fun h => by omega⟩, rfl⟩
        case measure => simp [intOf]
      · have HR := Lib.hid (show or2 a b = a from if_neg hz)
        have hz1 : (a == 0) = false := by simpa using hz
        go_wp2_with fail
        try simp only [Exit.inBlock, Exit.then]
        go_ret
        exact ⟨ret_int HR.out.symm, rfl⟩
    · have c1 := K1.out
      obtain rfl := HZ.out.1 (Nat.le_refl _)
      by_cases hz : b = 0
      · subst hz
        go_wp2_with fail
        go_roundw
        case rel => exact ⟨2, by omega, rfl, Lib.hid ⟨fun _ => rfl, fun _ => rfl⟩, rfl⟩
        case measure => simp [intOf]
      · have HR := Lib.hid (show or2 0 b = b from if_pos rfl)
        have hz1 : (b == 0) = false := by simpa using hz
        go_wp2_with fail
        try simp only [Exit.inBlock, Exit.then]
        go_ret
        exact ⟨ret_int HR.out.symm, rfl⟩
    · obtain rfl := HZ.out.1 (by omega)
      obtain rfl := HZ.out.2 (Nat.le_refl _)
      go_wp2_with fail
      go_ret
      exact ⟨rfl, rfl⟩
/-- by starts, then by ends, «as» a number -/
def cmpP2 (p q : Int × Int) : Int := or2 (Lib.compareInt p.1 q.1) (Lib.compareInt p.2 q.2)
set_option maxHeartbeats 4000000 in
set_option maxRecDepth 100000 in
theorem compP_gw (p q : Int × Int) (w : World) : Calls Try.prog 41 #[pv p.1 p.2, pv q.1 q.2] w fun e w' => e = .returned (.int .i64 (cmpP2 p q)) ∧ Gw w w' := by
  obtain ⟨a, b⟩ := p
  obtain ⟨c, d⟩ := q
  have hc := fun w2 => Try.cmp_Compare_int a c w2
  have hd := fun w2 => Try.cmp_Compare_int b d w2
  have ho := fun w2 v => or_gw (Lib.compareInt a c) (Lib.compareInt b d) v w2
  have HV := Lib.hid (show cmpP2 (a, b) (c, d) = or2 (Lib.compareInt a c) (Lib.compareInt b d) from rfl)
  generalize or2 (Lib.compareInt a c) (Lib.compareInt b d) = rr at *
  generalize cmpP2 (a, b) (c, d) = r at *
  generalize Lib.compareInt a c = x at *
  generalize Lib.compareInt b d = y at *
  have HC := Lib.hid hc
  have HD := Lib.hid hd
  have HO := Lib.hid ho
  clear hc hd ho
  have F1 : True := trivial
  go_enter Try.func41, Try.ntmps41
  go_wp2_with fail
  have b0 := al0 w (.int .i64 a) (.int .i64 b) 28
  have b1 := al1 w (.int .i64 a) (.int .i64 b) 28
  have d0 := al0 (w.alloc (.cells #[.int .i64 a, .int .i64 b] 28)) (.int .i64 c) (.int .i64 d) 28
  have d1 := al1 (w.alloc (.cells #[.int .i64 a, .int .i64 b] 28)) (.int .i64 c) (.int .i64 d) 28
  have hX := gw2 w (.cells #[.int .i64 a, .int .i64 b] 28) (.cells #[.int .i64 c, .int .i64 d] 28)
  have hk : Ext (w.alloc (.cells #[.int .i64 a, .int .i64 b] 28)) ((w.alloc (.cells #[.int .i64 a, .int .i64 b] 28)).alloc (.cells #[.int .i64 c, .int .i64 d] 28)) := (Ext.refl _).alloc _ _
  have c0 := hk.keeps b0
  have c1 := hk.keeps b1
  rw [alsz] at d0 d1
  clear b0 b1 hk
  generalize (w.alloc (.cells #[.int .i64 a, .int .i64 b] 28)).alloc (.cells #[.int .i64 c, .int .i64 d] 28) = W at *
  have z0 : w.heap.size < W.heap.size := World.block_lt_of_cell? _ _ c0
  have z1 : w.heap.size + 1 < W.heap.size := World.block_lt_of_cell? _ _ d0
  have K0 := Lib.hid c0
  have K1 := Lib.hid c1
  have K2 := Lib.hid d0
  have K3 := Lib.hid d1
  have HX := Lib.hid hX
  clear c0 c1 d0 d1 hX
  have EA := Lib.hid (((Ext.refl W).alloc #[.int .i64 x, .int .i64 y] 3).drew)
  go_region_held3 (fun w' => w'.cell? ⟨w.heap.size, 0, none⟩ = some (.int .i64 a) ∧ w'.cell? ⟨w.heap.size, 1, none⟩ = some (.int .i64 b) ∧ w'.cell? ⟨w.heap.size + 1, 0, none⟩ = some (.int .i64 c) ∧ w'.cell? ⟨w.heap.size + 1, 1, none⟩ = some (.int .i64 d)) (first | exact ⟨K0.out, K1.out, K2.out, K3.out⟩ | exact ⟨EA.out.keeps K0.out, EA.out.keeps K1.out, EA.out.keeps K2.out, EA.out.keeps K3.out⟩ | go_keep)
    (first | (clear F1; go_at_call 57; refine (HC.out _).mono ?_; rintro e w3 ⟨rfl, rfl⟩) | (go_at_call 57; refine (HD.out _).mono ?_; rintro e w3 ⟨rfl, rfl⟩) | (go_at_call 56; refine (HO.out _ _ ?_).mono ?_; (exact rd_litG W [x, y] #[.int .i64 x, .int .i64 y] 3 _ 2 rfl rfl (by simp) rfl); rintro e w4 ⟨rfl, rfl⟩))
  go_wp2_with fail
  go_ret
  exact ⟨ret_int HV.out.symm, (HX.out.alloc _).drew⟩
/-- the same row and the same period -/
def sameT (x y : Tu) : Bool := decide (x = y)
theorem sameT_eq (x y : Tu) : sameT x y = (decide (x.a = y.a ∧ x.b = y.b) && decide (cmpW x.r y.r = 0)) := by
  obtain ⟨xr, xa, xb⟩ := x
  obtain ⟨yr, ya, yb⟩ := y
  unfold sameT
  rw [Bool.eq_iff_iff]
  simp only [Tu.mk.injEq, Bool.and_eq_true, decide_eq_true_eq, cw_ord.zero xr yr]
  constructor
  · rintro ⟨h1, h2, h3⟩; exact ⟨⟨h2, h3⟩, h1⟩
  · rintro ⟨⟨h2, h3⟩, h1⟩; exact ⟨h1, h2, h3⟩
end Go.Proofs.Ytnckdopphimgoaa
