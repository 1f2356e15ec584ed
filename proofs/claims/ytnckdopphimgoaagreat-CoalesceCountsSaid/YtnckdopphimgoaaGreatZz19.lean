/- The first that is not zero, of two; the program's order of periods. -/
import Derived.Test.YtnckdopphimgoaaGreatZz16
import Derived.Test.YtnckdopphimgoaaGreatZz18
namespace Go.Proofs.YtnckdopphimgoaaGreat
open Go.ChangeShapes Go.WideShapes Go.ChangeAt Go.RowKit Go.Sort

def or2 (a b : Int) : Int := if a = 0 then b else a
def OrR (a b : Int) (w : World) (i : Value) (wr : World) : Prop := ∃ k : Nat, k ≤ 2 ∧ i = .int .i64 k ∧ Hid ((1 ≤ k → a = 0) ∧ (2 ≤ k → b = 0)) ∧ wr = w
set_option maxHeartbeats 2000000 in
theorem or_gw (a b : Int) (v : Value) (w : World) (h : RdG w v [a, b]) : Calls Tryz.prog 77 #[v] w fun e w' => e = .returned (.int .i64 (or2 a b)) ∧ w' = w := by
  obtain ⟨ad, cap, rfl, h1, h2⟩ := h.shape
  obtain ⟨g, o, rfl, c0'⟩ := h.at 0 (by simp)
  obtain ⟨g', o', e', c1'⟩ := h.at 1 (by simp)
  simp only [Option.some.injEq, Addr.mk.injEq, and_true] at e'
  obtain ⟨rfl, rfl⟩ := e'
  have c0 := c0' 0 _ rfl
  have c1 := c1' 0 _ rfl
  simp only [Enc.sz, Nat.add_zero, List.getElem_cons_zero, List.getElem_cons_succ, Nat.zero_mul] at c0 c1
  clear c0' c1' h
  simp only [List.length_cons, List.length_nil] at h1 ⊢
  have K0 := Lib.hid c0
  have K1 := Lib.hid c1
  clear c0 c1
  go_enter Tryz.func77, Tryz.ntmps77
  go_wp2_with fail
  go_loopw [8] (OrR a b w) (fun i _ => 2 - (intOf i).toNat)
  case atStart => exact ⟨0, by omega, rfl, Lib.hid ⟨fun h => by omega, fun h => by omega⟩, rfl⟩
  case round =>
    obtain ⟨k, hk, rfl, HZ, rfl⟩ := hrel
    rcases (show k = 0 ∨ k = 1 ∨ k = 2 by omega) with rfl | rfl | rfl
    · have c0 := K0.out
      by_cases hz : a = 0
      · subst hz
        go_wp2_with fail
        go_roundw
        case rel => exact ⟨1, by omega, rfl, Lib.hid ⟨fun _ => rfl, fun h => by omega⟩, rfl⟩
        case measure => simp [intOf]
      · have HR := Lib.hid (show or2 a b = a from if_neg hz)
        have hz1 : (a == 0) = false := by simpa using hz
        go_wp2_with fail
        try simp only [Exit.inBlock, Exit.then]
        go_ret
        exact ⟨ret_int HR.out.symm, rfl⟩
    · have c1 := K1.out
      obtain rfl := HZ.out.1 (Nat.le_refl _)
      by_cases hz : b = 0
      · subst hz
        go_wp2_with fail
        go_roundw
        case rel => exact ⟨2, by omega, rfl, Lib.hid ⟨fun _ => rfl, fun _ => rfl⟩, rfl⟩
        case measure => simp [intOf]
      · have HR := Lib.hid (show or2 0 b = b from if_pos rfl)
        have hz1 : (b == 0) = false := by simpa using hz
        go_wp2_with fail
        try simp only [Exit.inBlock, Exit.then]
        go_ret
        exact ⟨ret_int HR.out.symm, rfl⟩
    · obtain rfl := HZ.out.1 (by omega)
      obtain rfl := HZ.out.2 (Nat.le_refl _)
      go_wp2_with fail
      go_ret
      exact ⟨rfl, rfl⟩
/-- by starts, then by ends, «as» a number -/
def cmpP2 (p q : Int × Int) : Int := or2 (Lib.compareInt p.1 q.1) (Lib.compareInt p.2 q.2)
set_option maxHeartbeats 4000000 in
set_option maxRecDepth 100000 in
theorem compP_gw (p q : Int × Int) (w : World) : Calls Tryz.prog 61 #[pv p.1 p.2, pv q.1 q.2] w fun e w' => e = .returned (.int .i64 (cmpP2 p q)) ∧ Gw w w' := by
  obtain ⟨a, b⟩ := p
  obtain ⟨c, d⟩ := q
  have hc := fun w2 => Tryz.cmp_Compare_int a c w2
  have hd := fun w2 => Tryz.cmp_Compare_int b d w2
  have ho := fun w2 v => or_gw (Lib.compareInt a c) (Lib.compareInt b d) v w2
  have HV := Lib.hid (show cmpP2 (a, b) (c, d) = or2 (Lib.compareInt a c) (Lib.compareInt b d) from rfl)
  generalize or2 (Lib.compareInt a c) (Lib.compareInt b d) = rr at *
  generalize cmpP2 (a, b) (c, d) = r at *
  generalize Lib.compareInt a c = x at *
  generalize Lib.compareInt b d = y at *
  have HC := Lib.hid hc
  have HD := Lib.hid hd
  have HO := Lib.hid ho
  clear hc hd ho
  have F1 : True := trivial
  go_enter Tryz.func61, Tryz.ntmps61
  go_wp2_with fail
  have b0 := al0 w (.int .i64 a) (.int .i64 b) 40
  have b1 := al1 w (.int .i64 a) (.int .i64 b) 40
  have d0 := al0 (w.alloc (.cells #[.int .i64 a, .int .i64 b] 40)) (.int .i64 c) (.int .i64 d) 40
  have d1 := al1 (w.alloc (.cells #[.int .i64 a, .int .i64 b] 40)) (.int .i64 c) (.int .i64 d) 40
  have hX := gw2 w (.cells #[.int .i64 a, .int .i64 b] 40) (.cells #[.int .i64 c, .int .i64 d] 40)
  have hk : Ext (w.alloc (.cells #[.int .i64 a, .int .i64 b] 40)) ((w.alloc (.cells #[.int .i64 a, .int .i64 b] 40)).alloc (.cells #[.int .i64 c, .int .i64 d] 40)) := (Ext.refl _).alloc _ _
  have c0 := hk.keeps b0
  have c1 := hk.keeps b1
  rw [alsz] at d0 d1
  clear b0 b1 hk
  generalize (w.alloc (.cells #[.int .i64 a, .int .i64 b] 40)).alloc (.cells #[.int .i64 c, .int .i64 d] 40) = W at *
  have z0 : w.heap.size < W.heap.size := World.block_lt_of_cell? _ _ c0
  have z1 : w.heap.size + 1 < W.heap.size := World.block_lt_of_cell? _ _ d0
  have K0 := Lib.hid c0
  have K1 := Lib.hid c1
  have K2 := Lib.hid d0
  have K3 := Lib.hid d1
  have HX := Lib.hid hX
  clear c0 c1 d0 d1 hX
  have EA := Lib.hid (((Ext.refl W).alloc #[.int .i64 x, .int .i64 y] 3).drew)
  go_region_held3 (fun w' => w'.cell? ⟨w.heap.size, 0, none⟩ = some (.int .i64 a) ∧ w'.cell? ⟨w.heap.size, 1, none⟩ = some (.int .i64 b) ∧ w'.cell? ⟨w.heap.size + 1, 0, none⟩ = some (.int .i64 c) ∧ w'.cell? ⟨w.heap.size + 1, 1, none⟩ = some (.int .i64 d)) (first | exact ⟨K0.out, K1.out, K2.out, K3.out⟩ | exact ⟨EA.out.keeps K0.out, EA.out.keeps K1.out, EA.out.keeps K2.out, EA.out.keeps K3.out⟩ | go_keep)
    (first | (clear F1; go_at_call 78; refine (HC.out _).mono ?_; rintro e w3 ⟨rfl, rfl⟩) | (go_at_call 78; refine (HD.out _).mono ?_; rintro e w3 ⟨rfl, rfl⟩) | (go_at_call 77; refine (HO.out _ _ ?_).mono ?_; (exact rd_litG W [x, y] #[.int .i64 x, .int .i64 y] 3 _ 2 rfl rfl (by simp) rfl); rintro e w4 ⟨rfl, rfl⟩))
  go_wp2_with fail
  go_ret
  exact ⟨ret_int HV.out.symm, (HX.out.alloc _).drew⟩
/-- the same row and the same period -/
def sameT (x y : Tu) : Bool := decide (x = y)
theorem sameT_eq (x y : Tu) : sameT x y = (decide (x.a = y.a ∧ x.b = y.b) && decide (cmpW x.r y.r = 0)) := by
  obtain ⟨xr, xa, xb⟩ := x
  obtain ⟨yr, ya, yb⟩ := y
  unfold sameT
  rw [Bool.eq_iff_iff]
  simp only [Tu.mk.injEq, Bool.and_eq_true, decide_eq_true_eq, cw_ord.zero xr yr]
  constructor
  · rintro ⟨h1, h2, h3⟩; exact ⟨⟨h2, h3⟩, h1⟩
  · rintro ⟨⟨h2, h3⟩, h1⟩; exact ⟨h1, h2, h3⟩
end Go.Proofs.YtnckdopphimgoaaGreat
