/- The walk of the law PeriodOperations: it returns true at every input. -/
import Derived.Test.YthendocboifjnaaCm4
import Derived.Test.YthendocboifjnaaSame
import Derived.Deep.RegionHeld3
namespace Go.Proofs.Ythendocboifjnaa
open Go.ChangeShapes Go.WideShapes Go.ChangeAt Go.RowKit

set_option maxHeartbeats 8000000 in
theorem law_PeriodOperations (a b c d : Int) (w : World) : Calls Try.prog 8 #[pv a b, pv c d] w fun e w' => e = .returned (.bool true) ∧ Ext w w' := by
  go_enter Try.func8, Try.ntmps8
  go_wp2_with fail
  refine (is_per _ _ _ _ _).mono ?_; rintro e w1 ⟨rfl, hg⟩
  obtain ⟨k0, k1, k2, k3⟩ := boxes hg (Grown.refl _)
  have hE : Ext w w1 := (((Ext.refl _).alloc _ _).alloc _ _).trans (ext_of_grown hg)
  have hz : w.heap.size < w1.heap.size := World.block_lt_of_cell? _ _ k0
  have hz' : w.heap.size + 1 < w1.heap.size := World.block_lt_of_cell? _ _ k2
  clear hg
  go_wp2_with fail
  refine (is_ref _ _ _ _ _).mono ?_; rintro e w2 ⟨rfl, hg2⟩
  have hE2 : Ext w w2 := (hE.alloc _ _).trans (ext_of_grown hg2)
  have m0 := kept hg2 (kept ((Grown.refl _).alloc _ _) k0)
  have m1 := kept hg2 (kept ((Grown.refl _).alloc _ _) k1)
  have m2 := kept hg2 (kept ((Grown.refl _).alloc _ _) k2)
  have m3 := kept hg2 (kept ((Grown.refl _).alloc _ _) k3)
  have m4 := kept hg2 (al0 w1 _ _ _)
  have m5 := kept hg2 (al1 w1 _ _ _)
  have hy : w1.heap.size < w2.heap.size := World.block_lt_of_cell? _ _ m4
  clear k0 k1 k2 k3 hg2 hE
  go_wp2_with fail
  have hE0 : Ext w (w2.alloc (.cells #[.int .i64 (itF a b c d), .int .i64 (itT a b c d)] 23)) := hE2.alloc _ _
  have k0 := kept ((Grown.refl w2).alloc #[.int .i64 (itF a b c d), .int .i64 (itT a b c d)] 23) m0
  have k1 := kept ((Grown.refl w2).alloc #[.int .i64 (itF a b c d), .int .i64 (itT a b c d)] 23) m1
  have k2 := kept ((Grown.refl w2).alloc #[.int .i64 (itF a b c d), .int .i64 (itT a b c d)] 23) m2
  have k3 := kept ((Grown.refl w2).alloc #[.int .i64 (itF a b c d), .int .i64 (itT a b c d)] 23) m3
  have k4 := kept ((Grown.refl w2).alloc #[.int .i64 (itF a b c d), .int .i64 (itT a b c d)] 23) m4
  have k5 := kept ((Grown.refl w2).alloc #[.int .i64 (itF a b c d), .int .i64 (itT a b c d)] 23) m5
  have k6 := al0 w2 (.int .i64 (itF a b c d)) (.int .i64 (itT a b c d)) 23
  have k7 := al1 w2 (.int .i64 (itF a b c d)) (.int .i64 (itT a b c d)) 23
  generalize w2.alloc (.cells #[.int .i64 (itF a b c d), .int .i64 (itT a b c d)] 23) = W0 at hE0 k0 k1 k2 k3 k4 k5 k6 k7 ⊢
  have K0 := Lib.hid k0
  have K1 := Lib.hid k1
  have K2 := Lib.hid k2
  have K3 := Lib.hid k3
  have K4 := Lib.hid k4
  have K5 := Lib.hid k5
  have K6 := Lib.hid k6
  have K7 := Lib.hid k7
  clear hE2 m0 m1 m2 m3 m4 m5 k0 k1 k2 k3 k4 k5 k6 k7
  go_region_held3 (fun w' => w'.cell? ⟨w.heap.size, 0, none⟩ = some (.int .i64 a) ∧ w'.cell? ⟨w.heap.size, 1, none⟩ = some (.int .i64 b) ∧ w'.cell? ⟨w.heap.size + 1, 0, none⟩ = some (.int .i64 c) ∧ w'.cell? ⟨w.heap.size + 1, 1, none⟩ = some (.int .i64 d) ∧ w'.cell? ⟨w1.heap.size, 0, none⟩ = some (.int .i64 (itF a b c d)) ∧ w'.cell? ⟨w1.heap.size, 1, none⟩ = some (.int .i64 (itT a b c d)) ∧ w'.cell? ⟨w2.heap.size, 0, none⟩ = some (.int .i64 (itF a b c d)) ∧ w'.cell? ⟨w2.heap.size, 1, none⟩ = some (.int .i64 (itT a b c d))) (first | exact ⟨K0.out, K1.out, K2.out, K3.out, K4.out, K5.out, K6.out, K7.out⟩ | go_keep)
    (first
      | (go_at_call 10; refine (awake_law W0.drew).mono ?_; rintro e w3 ⟨rfl, e3'⟩; have e3 : Ext W0 w3 := e3'; have f0 := e3.keeps K0.out; have f1 := e3.keeps K1.out; have f2 := e3.keeps K2.out; have f3 := e3.keeps K3.out; have f4 := e3.keeps K4.out; have f5 := e3.keeps K5.out; have f6 := e3.keeps K6.out; have f7 := e3.keeps K7.out)
      | (go_at_call 27; refine (sub_per a b c d _).mono ?_; rintro e w4 ⟨va, rfl, oa, eA⟩; have e4 := e3.trans eA; have f0 := e4.keeps K0.out; have f1 := e4.keeps K1.out; have f2 := e4.keeps K2.out; have f3 := e4.keeps K3.out; have f4 := e4.keeps K4.out; have f5 := e4.keeps K5.out; have f6 := e4.keeps K6.out; have f7 := e4.keeps K7.out)
      | (go_at_call 28; refine (sub_ref a b c d _).mono ?_; rintro e w5 ⟨vb, rfl, ob, eB⟩; have oa5 := eB.owns oa; have e5 := e4.trans eB; have f0 := e5.keeps K0.out; have f1 := e5.keeps K1.out; have f2 := e5.keeps K2.out; have f3 := e5.keeps K3.out; have f4 := e5.keeps K4.out; have f5 := e5.keeps K5.out; have f6 := e5.keeps K6.out; have f7 := e5.keeps K7.out)
      | (go_at_call 26; refine (same_ref _ _ _ _ oa5 ob).mono ?_; rintro e w6 ⟨rfl, hg6⟩; have e6 := e5.trans (ext_of_grown hg6); have f0 := e6.keeps K0.out; have f1 := e6.keeps K1.out; have f2 := e6.keeps K2.out; have f3 := e6.keeps K3.out; have f4 := e6.keeps K4.out; have f5 := e6.keeps K5.out; have f6 := e6.keeps K6.out; have f7 := e6.keeps K7.out))
  go_wp2_with fail
  go_ret
  exact ⟨ret_bool (by simp), hE0.trans e6⟩
end Go.Proofs.Ythendocboifjnaa
