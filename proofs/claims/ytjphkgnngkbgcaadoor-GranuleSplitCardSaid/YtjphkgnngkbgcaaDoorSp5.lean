/- The walk of the law GranuleSplit: it returns true at every input. -/
import Derived.Test.YtjphkgnngkbgcaaDoorSp4
import Derived.Deep.RegionHeld3
namespace Go.Proofs.YtjphkgnngkbgcaaDoor
open Go.ChangeShapes Go.WideShapes Go.ChangeAt Go.RowKit

set_option maxHeartbeats 8000000 in
theorem law_GranuleSplit (k s a b : Int) (w : World) (hT : Tab w) :
    Calls Tryd.prog 6 #[gv k s, pv a b] w fun e w' => e = .returned (.bool true) ∧ Ext w w' := by
  have HT := Lib.hid ((hT.alloc #[.int .i64 k, .int .i64 s] 23).alloc #[.int .i64 a, .int .i64 b] 30)
  have HTd := Lib.hid (show Tab ((w.alloc (.cells #[.int .i64 k, .int .i64 s] 23)).alloc (.cells #[.int .i64 a, .int .i64 b] 30)).drew from HT.out)
  have hE0 : Ext w ((w.alloc (.cells #[.int .i64 k, .int .i64 s] 23)).alloc (.cells #[.int .i64 a, .int .i64 b] 30)) := ((Ext.refl _).alloc _ _).alloc _ _
  have k0 : ((w.alloc (.cells #[.int .i64 k, .int .i64 s] 23)).alloc (.cells #[.int .i64 a, .int .i64 b] 30)).cell? ⟨w.heap.size, 0, none⟩ = some (.int .i64 k) := kept ((Grown.refl _).alloc _ _) (al0 _ _ _ _)
  have k1 : ((w.alloc (.cells #[.int .i64 k, .int .i64 s] 23)).alloc (.cells #[.int .i64 a, .int .i64 b] 30)).cell? ⟨w.heap.size, 1, none⟩ = some (.int .i64 s) := kept ((Grown.refl _).alloc _ _) (al1 _ _ _ _)
  have k2 : ((w.alloc (.cells #[.int .i64 k, .int .i64 s] 23)).alloc (.cells #[.int .i64 a, .int .i64 b] 30)).cell? ⟨w.heap.size + 1, 0, none⟩ = some (.int .i64 a) := by rw [← alsz w (.cells #[.int .i64 k, .int .i64 s] 23)]; exact al0 _ _ _ _
  have k3 : ((w.alloc (.cells #[.int .i64 k, .int .i64 s] 23)).alloc (.cells #[.int .i64 a, .int .i64 b] 30)).cell? ⟨w.heap.size + 1, 1, none⟩ = some (.int .i64 b) := by rw [← alsz w (.cells #[.int .i64 k, .int .i64 s] 23)]; exact al1 _ _ _ _
  have K0 := Lib.hid k0
  have K1 := Lib.hid k1
  have K2 := Lib.hid k2
  have K3 := Lib.hid k3
  clear hT k0 k1 k2 k3
  by_cases hc : a < b
  · go_enter Tryd.func6, Tryd.ntmps6
    go_wp2_with (go_at_call 13; refine (awake_law _ HT.out).mono ?_; rintro e w3 ⟨rfl, hg3⟩)
    · go_ret
      exact ⟨rfl, hE0.trans (ext_of_grown hg3)⟩
    · clear hc
      go_region_held3 (fun w' => w'.cell? ⟨w.heap.size, 0, none⟩ = some (.int .i64 k) ∧ w'.cell? ⟨w.heap.size, 1, none⟩ = some (.int .i64 s) ∧ w'.cell? ⟨w.heap.size + 1, 0, none⟩ = some (.int .i64 a) ∧ w'.cell? ⟨w.heap.size + 1, 1, none⟩ = some (.int .i64 b)) (first | exact ⟨K0.out, K1.out, K2.out, K3.out⟩ | go_keep)
        (first
          | (go_at_call 13; refine (awake_law ((w.alloc (.cells #[.int .i64 k, .int .i64 s] 23)).alloc (.cells #[.int .i64 a, .int .i64 b] 30)).drew HTd.out).mono ?_; rintro e w3 ⟨rfl, hg3⟩; have e3 : Ext ((w.alloc (.cells #[.int .i64 k, .int .i64 s] 23)).alloc (.cells #[.int .i64 a, .int .i64 b] 30)) w3 := ext_of_grown hg3; have f0 := e3.keeps K0.out; have f1 := e3.keeps K1.out; have f2 := e3.keeps K2.out; have f3 := e3.keeps K3.out)
          | (go_at_call 20; refine (split_gra k s a b _ (HT.out.ext e3)).mono ?_; rintro e w4 ⟨va, rfl, oa, eA⟩; have e4 := e3.trans eA; have f0 := e4.keeps K0.out; have f1 := e4.keeps K1.out; have f2 := e4.keeps K2.out; have f3 := e4.keeps K3.out)
          | (go_at_call 21; refine (split_ref k s a b _).mono ?_; rintro e w5 ⟨vb, rfl, ob, eB⟩; have oa5 := eB.owns oa; have e5 := e4.trans eB; have f0 := e5.keeps K0.out; have f1 := e5.keeps K1.out; have f2 := e5.keeps K2.out; have f3 := e5.keeps K3.out)
          | (go_at_call 19; refine (same_ref _ _ _ _ oa5 ob).mono ?_; rintro e w6 ⟨rfl, hg6⟩; have e6 := e5.trans (ext_of_grown hg6); have f0 := e6.keeps K0.out; have f1 := e6.keeps K1.out; have f2 := e6.keeps K2.out; have f3 := e6.keeps K3.out))
      go_wp2_with fail
      go_ret
      exact ⟨rfl, hE0.trans e6⟩
  · go_enter Tryd.func6, Tryd.ntmps6
    go_wp2_with fail
    clear hc
    go_region_held3 (fun w' => w'.cell? ⟨w.heap.size, 0, none⟩ = some (.int .i64 k) ∧ w'.cell? ⟨w.heap.size, 1, none⟩ = some (.int .i64 s) ∧ w'.cell? ⟨w.heap.size + 1, 0, none⟩ = some (.int .i64 a) ∧ w'.cell? ⟨w.heap.size + 1, 1, none⟩ = some (.int .i64 b)) (first | exact ⟨K0.out, K1.out, K2.out, K3.out⟩ | go_keep)
      (first
        | (go_at_call 13; refine (awake_law ((w.alloc (.cells #[.int .i64 k, .int .i64 s] 23)).alloc (.cells #[.int .i64 a, .int .i64 b] 30)).drew HTd.out).mono ?_; rintro e w3 ⟨rfl, hg3⟩; have e3 : Ext ((w.alloc (.cells #[.int .i64 k, .int .i64 s] 23)).alloc (.cells #[.int .i64 a, .int .i64 b] 30)) w3 := ext_of_grown hg3; have f0 := e3.keeps K0.out; have f1 := e3.keeps K1.out; have f2 := e3.keeps K2.out; have f3 := e3.keeps K3.out)
        | (go_at_call 20; refine (split_gra k s a b _ (HT.out.ext e3)).mono ?_; rintro e w4 ⟨va, rfl, oa, eA⟩; have e4 := e3.trans eA; have f0 := e4.keeps K0.out; have f1 := e4.keeps K1.out; have f2 := e4.keeps K2.out; have f3 := e4.keeps K3.out)
        | (go_at_call 21; refine (split_ref k s a b _).mono ?_; rintro e w5 ⟨vb, rfl, ob, eB⟩; have oa5 := eB.owns oa; have e5 := e4.trans eB; have f0 := e5.keeps K0.out; have f1 := e5.keeps K1.out; have f2 := e5.keeps K2.out; have f3 := e5.keeps K3.out)
        | (go_at_call 19; refine (same_ref _ _ _ _ oa5 ob).mono ?_; rintro e w6 ⟨rfl, hg6⟩; have e6 := e5.trans (ext_of_grown hg6); have f0 := e6.keeps K0.out; have f1 := e6.keeps K1.out; have f2 := e6.keeps K2.out; have f3 := e6.keeps K3.out))
    go_wp2_with fail
    go_ret
    exact ⟨rfl, hE0.trans e6⟩
end Go.Proofs.YtjphkgnngkbgcaaDoor
