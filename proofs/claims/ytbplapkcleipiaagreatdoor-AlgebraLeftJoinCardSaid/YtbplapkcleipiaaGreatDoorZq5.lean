/- The laws' builder of tuples. -/
import Derived.Test.YtbplapkcleipiaaGreatDoorZz43
import Derived.Test.YtbplapkcleipiaaGreatDoorZz42
import Derived.Test.YtbplapkcleipiaaGreatDoorZz06
import Derived.Test.YtbplapkcleipiaaGreatDoorZq4
namespace Go.Proofs.YtbplapkcleipiaaGreatDoor
open Go.ChangeShapes Go.WideShapes Go.ChangeAt Go.RowKit

set_option maxHeartbeats 8000000 in
set_option maxRecDepth 100000 in
theorem tuple_law (x : Five) (hx : x.ok) (w : World) : Calls Tryz.prog 46 #[x.v] w (BtP w) := by
  obtain ⟨a, b, c, d, z⟩ := x
  obtain ⟨⟨a0, a1⟩, ⟨b0, b1⟩, ⟨c0, c1⟩, ⟨d0, d1⟩, ⟨z0, z1⟩⟩ := hx
  simp only at a0 a1 b0 b1 c0 c1 d0 d1 z0 z1
  have HV := Lib.hid (fun w => vals_law c d c0 c1 d0 d1 w)
  have HP := Lib.hid (fun w => period_law a b a0 a1 b0 b1 w)
  obtain ⟨m, hm⟩ : ∃ m, m = z % 5 := ⟨_, rfl⟩
  have hm1 : Int.tmod z 5 = m := by rw [Int.tmod_eq_emod_of_nonneg z0]; exact hm.symm
  have hm2 := hm.symm
  have hmb : 0 ≤ m ∧ m ≤ 4 := by omega
  have wm1 := wrapU m (by omega) (by omega)
  have wm2 := wrapI m (by omega) (by omega)
  have wm3 := wrapI (1 + m) (by omega) (by omega)
  clear hm a0 a1 b0 b1 c0 c1 d0 d1 z0 z1
  go_enter Tryz.func46, Tryz.ntmps46
  have b0 : ((w.alloc (.cells #[.int .u16 a, .int .u16 b, .int .u16 c, .int .u16 d, .int .u16 z] 78)).alloc (.cells #[.slice none 0 0, .int .i64 0, .int .i64 0, .slice none 0 0] 84)).cell? ⟨w.heap.size, 0, none⟩ = some (.int .u16 a) := ((Ext.refl _).alloc _ _).keeps (al_c w _ _ 0 _ rfl)
  have b1 : ((w.alloc (.cells #[.int .u16 a, .int .u16 b, .int .u16 c, .int .u16 d, .int .u16 z] 78)).alloc (.cells #[.slice none 0 0, .int .i64 0, .int .i64 0, .slice none 0 0] 84)).cell? ⟨w.heap.size, 1, none⟩ = some (.int .u16 b) := ((Ext.refl _).alloc _ _).keeps (al_c w _ _ 1 _ rfl)
  have b2 : ((w.alloc (.cells #[.int .u16 a, .int .u16 b, .int .u16 c, .int .u16 d, .int .u16 z] 78)).alloc (.cells #[.slice none 0 0, .int .i64 0, .int .i64 0, .slice none 0 0] 84)).cell? ⟨w.heap.size, 2, none⟩ = some (.int .u16 c) := ((Ext.refl _).alloc _ _).keeps (al_c w _ _ 2 _ rfl)
  have b3 : ((w.alloc (.cells #[.int .u16 a, .int .u16 b, .int .u16 c, .int .u16 d, .int .u16 z] 78)).alloc (.cells #[.slice none 0 0, .int .i64 0, .int .i64 0, .slice none 0 0] 84)).cell? ⟨w.heap.size, 3, none⟩ = some (.int .u16 d) := ((Ext.refl _).alloc _ _).keeps (al_c w _ _ 3 _ rfl)
  have b4 : ((w.alloc (.cells #[.int .u16 a, .int .u16 b, .int .u16 c, .int .u16 d, .int .u16 z] 78)).alloc (.cells #[.slice none 0 0, .int .i64 0, .int .i64 0, .slice none 0 0] 84)).cell? ⟨w.heap.size, 4, none⟩ = some (.int .u16 z) := ((Ext.refl _).alloc _ _).keeps (al_c w _ _ 4 _ rfl)
  have b5 : ((w.alloc (.cells #[.int .u16 a, .int .u16 b, .int .u16 c, .int .u16 d, .int .u16 z] 78)).alloc (.cells #[.slice none 0 0, .int .i64 0, .int .i64 0, .slice none 0 0] 84)).cell? ⟨w.heap.size + 1, 0, none⟩ = some (.slice none 0 0) := by have := al_c (w.alloc (.cells #[.int .u16 a, .int .u16 b, .int .u16 c, .int .u16 d, .int .u16 z] 78)) #[.slice none 0 0, .int .i64 0, .int .i64 0, .slice none 0 0] 84 0 _ rfl; rw [alsz] at this; exact this
  have b6 : ((w.alloc (.cells #[.int .u16 a, .int .u16 b, .int .u16 c, .int .u16 d, .int .u16 z] 78)).alloc (.cells #[.slice none 0 0, .int .i64 0, .int .i64 0, .slice none 0 0] 84)).cell? ⟨w.heap.size + 1, 1, none⟩ = some (.int .i64 0) := by have := al_c (w.alloc (.cells #[.int .u16 a, .int .u16 b, .int .u16 c, .int .u16 d, .int .u16 z] 78)) #[.slice none 0 0, .int .i64 0, .int .i64 0, .slice none 0 0] 84 1 _ rfl; rw [alsz] at this; exact this
  have b7 : ((w.alloc (.cells #[.int .u16 a, .int .u16 b, .int .u16 c, .int .u16 d, .int .u16 z] 78)).alloc (.cells #[.slice none 0 0, .int .i64 0, .int .i64 0, .slice none 0 0] 84)).cell? ⟨w.heap.size + 1, 2, none⟩ = some (.int .i64 0) := by have := al_c (w.alloc (.cells #[.int .u16 a, .int .u16 b, .int .u16 c, .int .u16 d, .int .u16 z] 78)) #[.slice none 0 0, .int .i64 0, .int .i64 0, .slice none 0 0] 84 2 _ rfl; rw [alsz] at this; exact this
  have b8 : ((w.alloc (.cells #[.int .u16 a, .int .u16 b, .int .u16 c, .int .u16 d, .int .u16 z] 78)).alloc (.cells #[.slice none 0 0, .int .i64 0, .int .i64 0, .slice none 0 0] 84)).cell? ⟨w.heap.size + 1, 3, none⟩ = some (.slice none 0 0) := by have := al_c (w.alloc (.cells #[.int .u16 a, .int .u16 b, .int .u16 c, .int .u16 d, .int .u16 z] 78)) #[.slice none 0 0, .int .i64 0, .int .i64 0, .slice none 0 0] 84 3 _ rfl; rw [alsz] at this; exact this
  have b9 : ((w.alloc (.cells #[.int .u16 a, .int .u16 b, .int .u16 c, .int .u16 d, .int .u16 z] 78)).alloc (.cells #[.slice none 0 0, .int .i64 0, .int .i64 0, .slice none 0 0] 84)).frozen? ⟨w.heap.size + 1, 0, none⟩ = false := World.frozen?_alloc_at _ _ _ _ (by rw [alsz])
  have b10 : ((w.alloc (.cells #[.int .u16 a, .int .u16 b, .int .u16 c, .int .u16 d, .int .u16 z] 78)).alloc (.cells #[.slice none 0 0, .int .i64 0, .int .i64 0, .slice none 0 0] 84)).frozen? ⟨w.heap.size + 1, 1, none⟩ = false := World.frozen?_alloc_at _ _ _ _ (by rw [alsz])
  have b11 : ((w.alloc (.cells #[.int .u16 a, .int .u16 b, .int .u16 c, .int .u16 d, .int .u16 z] 78)).alloc (.cells #[.slice none 0 0, .int .i64 0, .int .i64 0, .slice none 0 0] 84)).frozen? ⟨w.heap.size + 1, 2, none⟩ = false := World.frozen?_alloc_at _ _ _ _ (by rw [alsz])
  have b12 : ((w.alloc (.cells #[.int .u16 a, .int .u16 b, .int .u16 c, .int .u16 d, .int .u16 z] 78)).alloc (.cells #[.slice none 0 0, .int .i64 0, .int .i64 0, .slice none 0 0] 84)).frozen? ⟨w.heap.size + 1, 3, none⟩ = false := World.frozen?_alloc_at _ _ _ _ (by rw [alsz])
  have hX0 : Ext w ((w.alloc (.cells #[.int .u16 a, .int .u16 b, .int .u16 c, .int .u16 d, .int .u16 z] 78)).alloc (.cells #[.slice none 0 0, .int .i64 0, .int .i64 0, .slice none 0 0] 84)) := ((Ext.refl _).alloc _ _).alloc _ _
  go_wp2_with fail
  generalize (w.alloc (.cells #[.int .u16 a, .int .u16 b, .int .u16 c, .int .u16 d, .int .u16 z] 78)).alloc (.cells #[.slice none 0 0, .int .i64 0, .int .i64 0, .slice none 0 0] 84) = w0 at *
  have K0 := Lib.hid b0
  have K1 := Lib.hid b1
  have K2 := Lib.hid b2
  have K3 := Lib.hid b3
  have K4 := Lib.hid b4
  have K5 := Lib.hid b5
  have K6 := Lib.hid b6
  have K7 := Lib.hid b7
  have K8 := Lib.hid b8
  have K9 := Lib.hid b9
  have K10 := Lib.hid b10
  have K11 := Lib.hid b11
  have K12 := Lib.hid b12
  have HX0 := Lib.hid hX0
  have hB0 : w.heap.size + 1 < w0.heap.size := World.block_lt_of_cell? _ _ b5
  have HB0 := Lib.hid hB0
  clear hX0 b0 b1 b2 b3 b4 b5 b6 b7 b8 b9 b10 b11 b12
  have HSET := Lib.hid (show ∀ (X : World) (p q r s : Value), (X.cell? ⟨w.heap.size, 0, none⟩ = some (.int .u16 a) ∧ X.cell? ⟨w.heap.size, 1, none⟩ = some (.int .u16 b) ∧ X.cell? ⟨w.heap.size, 2, none⟩ = some (.int .u16 c) ∧ X.cell? ⟨w.heap.size, 3, none⟩ = some (.int .u16 d) ∧ X.cell? ⟨w.heap.size, 4, none⟩ = some (.int .u16 z)) → (((((X.setCell ⟨w.heap.size + 1, 0, none⟩ p).setCell ⟨w.heap.size + 1, 1, none⟩ q).setCell ⟨w.heap.size + 1, 2, none⟩ r).setCell ⟨w.heap.size + 1, 3, none⟩ s).cell? ⟨w.heap.size, 0, none⟩ = some (.int .u16 a) ∧ ((((X.setCell ⟨w.heap.size + 1, 0, none⟩ p).setCell ⟨w.heap.size + 1, 1, none⟩ q).setCell ⟨w.heap.size + 1, 2, none⟩ r).setCell ⟨w.heap.size + 1, 3, none⟩ s).cell? ⟨w.heap.size, 1, none⟩ = some (.int .u16 b) ∧ ((((X.setCell ⟨w.heap.size + 1, 0, none⟩ p).setCell ⟨w.heap.size + 1, 1, none⟩ q).setCell ⟨w.heap.size + 1, 2, none⟩ r).setCell ⟨w.heap.size + 1, 3, none⟩ s).cell? ⟨w.heap.size, 2, none⟩ = some (.int .u16 c) ∧ ((((X.setCell ⟨w.heap.size + 1, 0, none⟩ p).setCell ⟨w.heap.size + 1, 1, none⟩ q).setCell ⟨w.heap.size + 1, 2, none⟩ r).setCell ⟨w.heap.size + 1, 3, none⟩ s).cell? ⟨w.heap.size, 3, none⟩ = some (.int .u16 d) ∧ ((((X.setCell ⟨w.heap.size + 1, 0, none⟩ p).setCell ⟨w.heap.size + 1, 1, none⟩ q).setCell ⟨w.heap.size + 1, 2, none⟩ r).setCell ⟨w.heap.size + 1, 3, none⟩ s).cell? ⟨w.heap.size, 4, none⟩ = some (.int .u16 z)) from fun X p q r s h => ⟨set4_cell (by omega) h.1, set4_cell (by omega) h.2.1, set4_cell (by omega) h.2.2.1, set4_cell (by omega) h.2.2.2.1, set4_cell (by omega) h.2.2.2.2⟩)
  have HALC := Lib.hid (show ∀ (X : World) (cc : Array Value) (t : TypeId), (X.cell? ⟨w.heap.size, 0, none⟩ = some (.int .u16 a) ∧ X.cell? ⟨w.heap.size, 1, none⟩ = some (.int .u16 b) ∧ X.cell? ⟨w.heap.size, 2, none⟩ = some (.int .u16 c) ∧ X.cell? ⟨w.heap.size, 3, none⟩ = some (.int .u16 d) ∧ X.cell? ⟨w.heap.size, 4, none⟩ = some (.int .u16 z)) → ((X.alloc (.cells cc t)).cell? ⟨w.heap.size, 0, none⟩ = some (.int .u16 a) ∧ (X.alloc (.cells cc t)).cell? ⟨w.heap.size, 1, none⟩ = some (.int .u16 b) ∧ (X.alloc (.cells cc t)).cell? ⟨w.heap.size, 2, none⟩ = some (.int .u16 c) ∧ (X.alloc (.cells cc t)).cell? ⟨w.heap.size, 3, none⟩ = some (.int .u16 d) ∧ (X.alloc (.cells cc t)).cell? ⟨w.heap.size, 4, none⟩ = some (.int .u16 z)) from fun X cc t h => ⟨((Ext.refl X).alloc cc t).keeps h.1, ((Ext.refl X).alloc cc t).keeps h.2.1, ((Ext.refl X).alloc cc t).keeps h.2.2.1, ((Ext.refl X).alloc cc t).keeps h.2.2.2.1, ((Ext.refl X).alloc cc t).keeps h.2.2.2.2⟩)
  have HSAL := Lib.hid (fun (X : World) (p q r s : Value) (cc : Array Value) (t : TypeId) h => HALC.out _ cc t (HSET.out X p q r s h))
  have HS0 := Lib.hid (show w0.cell? ⟨w.heap.size, 0, none⟩ = some (.int .u16 a) ∧ w0.cell? ⟨w.heap.size, 1, none⟩ = some (.int .u16 b) ∧ w0.cell? ⟨w.heap.size, 2, none⟩ = some (.int .u16 c) ∧ w0.cell? ⟨w.heap.size, 3, none⟩ = some (.int .u16 d) ∧ w0.cell? ⟨w.heap.size, 4, none⟩ = some (.int .u16 z) from ⟨K0.out, K1.out, K2.out, K3.out, K4.out⟩)
  have HDRW := Lib.hid (show ∀ X : World, (X.cell? ⟨w.heap.size, 0, none⟩ = some (.int .u16 a) ∧ X.cell? ⟨w.heap.size, 1, none⟩ = some (.int .u16 b) ∧ X.cell? ⟨w.heap.size, 2, none⟩ = some (.int .u16 c) ∧ X.cell? ⟨w.heap.size, 3, none⟩ = some (.int .u16 d) ∧ X.cell? ⟨w.heap.size, 4, none⟩ = some (.int .u16 z)) → (X.drew.cell? ⟨w.heap.size, 0, none⟩ = some (.int .u16 a) ∧ X.drew.cell? ⟨w.heap.size, 1, none⟩ = some (.int .u16 b) ∧ X.drew.cell? ⟨w.heap.size, 2, none⟩ = some (.int .u16 c) ∧ X.drew.cell? ⟨w.heap.size, 3, none⟩ = some (.int .u16 d) ∧ X.drew.cell? ⟨w.heap.size, 4, none⟩ = some (.int .u16 z)) from fun X h => h)
  go_region_held3 (fun w' => w'.cell? ⟨w.heap.size, 0, none⟩ = some (.int .u16 a) ∧ w'.cell? ⟨w.heap.size, 1, none⟩ = some (.int .u16 b) ∧ w'.cell? ⟨w.heap.size, 2, none⟩ = some (.int .u16 c) ∧ w'.cell? ⟨w.heap.size, 3, none⟩ = some (.int .u16 d) ∧ w'.cell? ⟨w.heap.size, 4, none⟩ = some (.int .u16 z)) (first | with_reducible exact HS0.out | with_reducible exact hsf | with_reducible exact hsg | with_reducible exact HDRW.out _ (by assumption) | with_reducible exact HALC.out _ _ _ (by assumption) | with_reducible exact HSET.out _ _ _ _ _ (by assumption) | with_reducible exact HSAL.out _ _ _ _ _ _ _ (by assumption) | with_reducible exact HDRW.out _ HS0.out | with_reducible exact HDRW.out _ (HALC.out _ _ _ HS0.out))
    (first | (go_at_call 33; refine (HV.out _).mono ?_; rintro e w3 ⟨v3, l3, rfl, hO3, hl3, hs3⟩; have HL3 := Lib.hid hl3; have HSM3 := Lib.hid hs3; clear hl3 hs3; obtain ⟨a3, c3, rfl, _, _⟩ := hO3.rd.shape; have hO3' : OwnG tV.e w0 w3 (.slice a3 l3.length c3) l3 := (by first | exact hO3 | exact hO3.base (Ext.refl w0).drew | exact hO3.base ((Ext.refl w0).alloc _ _) | exact hO3.base ((Ext.refl w0).drew.alloc _ _)); have e3 : Ext w0 w3 := hO3'.2; have hb3 : w.heap.size + 1 < w3.heap.size := Nat.lt_of_lt_of_le HB0.out e3.2.2; have HO3 := Lib.hid hO3'; have HQ3 := Lib.hid hO3.2; clear hO3 hO3'; have f0 := e3.keeps K0.out; have f1 := e3.keeps K1.out; have f2 := e3.keeps K2.out; have f3 := e3.keeps K3.out; have f4 := e3.keeps K4.out; have f5 := e3.keeps K5.out; have f6 := e3.keeps K6.out; have f7 := e3.keeps K7.out; have f8 := e3.keeps K8.out; have f9 := (e3.2.1 ⟨w.heap.size + 1, 0, none⟩ HB0.out).trans K9.out; have f10 := (e3.2.1 ⟨w.heap.size + 1, 1, none⟩ HB0.out).trans K10.out; have f11 := (e3.2.1 ⟨w.heap.size + 1, 2, none⟩ HB0.out).trans K11.out; have f12 := (e3.2.1 ⟨w.heap.size + 1, 3, none⟩ HB0.out).trans K12.out; have hsf : w3.cell? ⟨w.heap.size, 0, none⟩ = some (.int .u16 a) ∧ w3.cell? ⟨w.heap.size, 1, none⟩ = some (.int .u16 b) ∧ w3.cell? ⟨w.heap.size, 2, none⟩ = some (.int .u16 c) ∧ w3.cell? ⟨w.heap.size, 3, none⟩ = some (.int .u16 d) ∧ w3.cell? ⟨w.heap.size, 4, none⟩ = some (.int .u16 z) := ⟨f0, f1, f2, f3, f4⟩) | (go_at_call 61; refine (HP.out _).mono ?_; rintro e w4 ⟨pa, pb, rfl, hE4⟩; have e4 : Ext w3 w4 := (by first | exact hE4 | exact (Ext.refl w3).drew.trans hE4 | exact ((Ext.refl w3).alloc _ _).trans hE4 | exact ((Ext.refl w3).drew.alloc _ _).trans hE4); have HE4 := Lib.hid e4; have hb4 : w.heap.size + 1 < w4.heap.size := Nat.lt_of_lt_of_le hb3 e4.2.2; have HQ4 := Lib.hid hE4; clear hE4; have g0 := e4.keeps f0; have g1 := e4.keeps f1; have g2 := e4.keeps f2; have g3 := e4.keeps f3; have g4 := e4.keeps f4; have g5 := e4.keeps f5; have g6 := e4.keeps f6; have g7 := e4.keeps f7; have g8 := e4.keeps f8; have g9 := (e4.2.1 ⟨w.heap.size + 1, 0, none⟩ hb3).trans f9; have g10 := (e4.2.1 ⟨w.heap.size + 1, 1, none⟩ hb3).trans f10; have g11 := (e4.2.1 ⟨w.heap.size + 1, 2, none⟩ hb3).trans f11; have g12 := (e4.2.1 ⟨w.heap.size + 1, 3, none⟩ hb3).trans f12; have hsg : w4.cell? ⟨w.heap.size, 0, none⟩ = some (.int .u16 a) ∧ w4.cell? ⟨w.heap.size, 1, none⟩ = some (.int .u16 b) ∧ w4.cell? ⟨w.heap.size, 2, none⟩ = some (.int .u16 c) ∧ w4.cell? ⟨w.heap.size, 3, none⟩ = some (.int .u16 d) ∧ w4.cell? ⟨w.heap.size, 4, none⟩ = some (.int .u16 z) := ⟨g0, g1, g2, g3, g4⟩))
  · go_wp2_with fail
    have O := (HO3.out.base HX0.out).ext HE4.out
    have N := own_ne HO3.out (w.heap.size + 1) HB0.out
    have hb0 := HB0.out
    exact bodyPost_ret (v := .agg #[.slice a3 l3.length c3, .int .i64 pa, .int .i64 pb, .slice (some ⟨w4.heap.size, 0, none⟩) 1 1]) (by simp [results, Tryz.results46, go_sem, g5, g6, g7, g8, hb4]) rfl ⟨_, l3, _, [1 + m], pa, pb, rfl, (own_set4 O (w.heap.size + 1) _ _ _ _ (by omega) N).ext ((Ext.refl _).alloc _ _), own_litB tI.e (own_set4 O (w.heap.size + 1) _ _ _ _ (by omega) N).2 [1 + m] #[Value.int .i64 (1 + m)] _ 1 (by simp [World.setCell]) rfl (by simp) rfl, HL3.out, rfl, HSM3.out, fun x hx => by simp only [List.mem_cons, List.not_mem_nil, or_false] at hx; subst hx; omega⟩
  · go_wp2_with fail
    have O := (HO3.out.base HX0.out).ext HE4.out
    have N := own_ne HO3.out (w.heap.size + 1) HB0.out
    have hb0 := HB0.out
    exact bodyPost_ret (v := .agg #[.slice a3 l3.length c3, .int .i64 pa, .int .i64 pb, .slice (some ⟨w3.heap.size, 0, none⟩) 1 1]) (by simp [results, Tryz.results46, go_sem, g5, g6, g7, g8]) rfl ⟨_, l3, _, [1 + m], pa, pb, rfl, own_set4 O (w.heap.size + 1) _ _ _ _ (by omega) N, own_set4 ((own_litB tI.e (HX0.out.trans e3) [1 + m] #[Value.int .i64 (1 + m)] _ 1 rfl rfl (by simp) rfl).ext HQ4.out) (w.heap.size + 1) _ _ _ _ (by omega) (fun g hg => by injection hg with hg; simp only at hg; omega), HL3.out, rfl, HSM3.out, fun x hx => by simp only [List.mem_cons, List.not_mem_nil, or_false] at hx; subst hx; omega⟩
  · go_wp2_with fail
    have O := (HO3.out.base HX0.out).ext HE4.out
    have N := own_ne HO3.out (w.heap.size + 1) HB0.out
    have hb0 := HB0.out
    exact bodyPost_ret (v := .agg #[.slice a3 l3.length c3, .int .i64 pa, .int .i64 pb, .slice (some ⟨w0.heap.size, 0, none⟩) 1 1]) (by simp [results, Tryz.results46, go_sem, g5, g6, g7, g8]) rfl ⟨_, l3, _, [1 + m], pa, pb, rfl, own_set4 O (w.heap.size + 1) _ _ _ _ (by omega) N, own_set4 ((own_litB tI.e HX0.out [1 + m] #[Value.int .i64 (1 + m)] _ 1 rfl rfl (by simp) rfl).ext (Ext.trans HQ3.out HE4.out)) (w.heap.size + 1) _ _ _ _ (by omega) (fun g hg => by injection hg with hg; simp only at hg; omega), HL3.out, rfl, HSM3.out, fun x hx => by simp only [List.mem_cons, List.not_mem_nil, or_false] at hx; subst hx; omega⟩
end Go.Proofs.YtbplapkcleipiaaGreatDoor
/- The laws' builder of lists of tuples. -/
namespace Go.Proofs.YtbplapkcleipiaaGreatDoor
open Go.ChangeShapes Go.WideShapes Go.ChangeAt Go.RowKit

/-- small values, lineages of 1 to 5 -/
def GdR (r : R) : Prop := (∀ v ∈ r.v, SmV v) ∧ ∀ x ∈ r.t, 1 ≤ x ∧ x ≤ 5
/-- what a tuple of the builder is -/
def TsOk (W w : World) (t : TP) : Prop := (RdG w t.h.x t.r.v ∧ RdG w t.h.y t.r.t) ∧ (Off tT.e W w t.h.x ∧ Off tT.e W w t.h.y) ∧ t.r.v.length = 2 ∧ t.r.t.length = 1 ∧ GdR t.r
theorem TsOk.ext {W w w' : World} {t : TP} (h : TsOk W w t) (k : Ext w w') : TsOk W w' t := ⟨⟨h.1.1.ext k, h.1.2.ext k⟩, ⟨h.2.1.1.ext k, h.2.1.2.ext k⟩, h.2.2⟩
theorem TsOk.grw {W w w' : World} {t : TP} {b : Option Nat} (h : TsOk W w t) (k : Grw w w' b) (hb : RowBlk tT.e W w b) : TsOk W w' t :=
  ⟨⟨h.1.1.grw h.2.1.1 k hb, h.1.2.grw h.2.1.2 k hb⟩, ⟨h.2.1.1.grw k hb, h.2.1.2.grw k hb⟩, h.2.2⟩
def TuR (M : Nat) (w : World) (vo i : Value) (wr : World) : Prop := ∃ (k : Nat) (ts : List TP), k ≤ M ∧ i = .int .i64 k ∧ OwnG tT.e w wr vo ts ∧ (∀ t ∈ ts, TsOk w wr t) ∧ ts.length = k
/-- what Tuples returns -/
def TuP (M : Nat) (w : World) (e : Ending) (w' : World) : Prop := ∃ (v : Value) (ts : List TP), e = .returned v ∧ OwnG tT.e w w' v ts ∧ (∀ t ∈ ts, TsOk w w' t) ∧ ts.length ≤ M
theorem tu_next {w X w5 : World} {vo : Value} {ts : List TP} {p : TP} (hO : OwnG tT.e w X vo ts) (hT : ∀ t ∈ ts, TsOk w X t) (hp : TsOk w X p) (hg : X.grownBy w5 vo.ownBlock) : ∀ t ∈ ts ++ [p], TsOk w w5 t := fun t ht => by
  rcases List.mem_append.1 ht with ht | ht
  · exact (hT t ht).grw (grw_by hg) hO.blk
  · obtain rfl := List.mem_singleton.1 ht
    exact hp.grw (grw_by hg) hO.blk
set_option maxHeartbeats 8000000 in
set_option maxRecDepth 100000 in
theorem tuples_law (M : Nat) (hM : M ≤ 30) (l : List Five) (v : Value) (w : World) (h : RdG w v l) (hok : ∀ x ∈ l, x.ok) : Calls Tryz.prog 27 #[v, .int .i64 M] w (TuP M w) := by
  obtain ⟨ad, cap, rfl, h1, h2⟩ := h.shape
  have H := Lib.hid h
  have HK := Lib.hid hok
  clear h hok
  unfold maxLen at h2
  obtain ⟨n, hn⟩ : ∃ n, n = l.length := ⟨_, rfl⟩
  have HN := Lib.hid hn
  rw [← hn] at H h1 ⊢
  clear hn
  go_enter Tryz.func27, Tryz.ntmps27
  go_wp2_with fail
  go_loopw [5, 6] (TuR M w) (fun _ i _ => M - (intOf i).toNat)
  case atStart => exact ⟨0, [], by omega, rfl, OwnG.nil _ _ _ (Ext.refl _), (fun t h => by cases h), rfl⟩
  case round =>
    obtain ⟨k, ts, hk, rfl, hO, hT, hl⟩ := hrel
    have hi0 : (0 : Int) ≤ (k : Int) := Int.natCast_nonneg _
    by_cases hlt : k < n
    · have hi1 : (k : Int) < (n : Int) := by omega
      by_cases hlt2 : k < M
      · have hi2 : (k : Int) < (M : Int) := by omega
        have hlt' : k < l.length := by rw [← HN.out]; exact hlt
        obtain ⟨g, o, rfl, c0', c1', c2', c3', c4'⟩ := rd_Five H.out k hlt'
        have c0 := hO.2.keeps c0'
        have c1 := hO.2.keeps c1'
        have c2 := hO.2.keeps c2'
        have c3 := hO.2.keeps c3'
        have c4 := hO.2.keeps c4'
        have hx := HK.out l[k] (List.getElem_mem _)
        clear c0' c1' c2' c3' c4'
        generalize l[k] = x at *
        obtain ⟨xa, xb, xc, xd, xe⟩ := x
        simp only at c0 c1 c2 c3 c4
        have HL := Lib.hid (fun w => tuple_law ⟨xa, xb, xc, xd, xe⟩ hx w)
        have HO := Lib.hid hO
        have HT := Lib.hid hT
        have HLN := Lib.hid hl
        clear hx hO hT hl
        go_wp2_with fail
        refine (HL.out _).mono ?_; rintro e w1 ⟨v1, l1, v2, l2, pa, pb, rfl, o1, o2, n1, n2, n3, n4⟩
        obtain ⟨a3, c5, rfl, _, _⟩ := o1.rd.shape
        obtain ⟨a4, c6, rfl, _, _⟩ := o2.rd.shape
        have hp : TsOk w (w1.alloc (.cells #[.slice a3 l1.length c5, .int .i64 pa, .int .i64 pb, .slice a4 l2.length c6] 84)) ⟨⟨a3, l1.length, c5, a4, l2.length, c6⟩, ⟨l1, l2⟩, pa, pb⟩ :=
          ⟨⟨o1.rd.ext ((Ext.refl _).alloc _ _), o2.rd.ext ((Ext.refl _).alloc _ _)⟩, ⟨(o1.off (by decide)).ext ((Ext.refl _).alloc _ _), (o2.off (by decide)).ext ((Ext.refl _).alloc _ _)⟩, n1, n2, n3, n4⟩
        have HP := Lib.hid hp
        have E1 := Lib.hid (show Ext wr (w1.alloc (.cells #[.slice a3 l1.length c5, .int .i64 pa, .int .i64 pb, .slice a4 l2.length c6] 84)) from o1.2.alloc _ _)
        clear hp o1 o2 n1 n2 n3 n4
        go_wp2_with (at_builtin; refine appG tT rfl _ _ rfl w _ ts rfl ?a1 _ [(⟨⟨a3, l1.length, c5, a4, l2.length, c6⟩, ⟨l1, l2⟩, pa, pb⟩ : TP)] rfl ?a2 ?a3 ?_; (have z1 := HO.out.ext E1.out; case a1 => exact z1); (have z2 := rd_litG w1 [(⟨⟨a3, l1.length, c5, a4, l2.length, c6⟩, ⟨l1, l2⟩, pa, pb⟩ : TP)] #[.slice a3 l1.length c5, .int .i64 pa, .int .i64 pb, .slice a4 l2.length c6] 84 _ 1 rfl rfl (by simp) rfl; case a2 => exact z2); (case a3 => have := HLN.out; simp; omega); intro v5 w5 hO5 hg5)
        go_roundw
        case rel => exact ⟨k + 1, _, by omega, by go_num, hO5, tu_next (HO.out.ext E1.out) (fun t ht => (HT.out t ht).ext E1.out) HP.out hg5, by rw [List.length_append, HLN.out]; rfl⟩
        case measure => simp [intOf]; omega
      · have hi2 : ¬ (k : Int) < (M : Int) := by omega
        go_wp2_with fail
        go_ret
        exact ⟨_, ts, rfl, hO, hT, by omega⟩
    · go_wp2_with fail
      go_ret
      exact ⟨_, ts, rfl, hO, hT, by omega⟩
end Go.Proofs.YtbplapkcleipiaaGreatDoor
/- The laws' builder of lists of rows. -/
namespace Go.Proofs.YtbplapkcleipiaaGreatDoor
open Go.ChangeShapes Go.WideShapes Go.ChangeAt Go.RowKit

/-- what the builder's rows are -/
def BrP (M : Nat) (w : World) (e : Ending) (w' : World) : Prop := ∃ (v : Value) (ps : List P), e = .returned v ∧ RdG w' v ps ∧ RdAll w' ps ∧ ps.length ≤ M ∧ (∀ p ∈ ps, p.r.v.length = 2 ∧ p.r.t.length = 1 ∧ GdR p.r) ∧ Ext w w'
def BrR (M : Nat) (W : World) (vo i : Value) (wr : World) : Prop := ∃ (k : Nat) (ps : List P), k ≤ M ∧ i = .int .i64 k ∧ OwnG tP.e W wr vo ps ∧ RdAll W ps ∧ ps.length = k ∧ (∀ p ∈ ps, p.r.v.length = 2 ∧ p.r.t.length = 1 ∧ GdR p.r)
set_option maxHeartbeats 8000000 in
set_option maxRecDepth 100000 in
theorem rows_law (M : Nat) (hM : M ≤ 30) (l : List Five) (v : Value) (w : World) (h : RdG w v l) (hok : ∀ x ∈ l, x.ok) : Calls Tryz.prog 11 #[v, .int .i64 M] w (BrP M w) := by
  have H := Lib.hid h
  have HK := Lib.hid hok
  clear h hok
  go_enter Tryz.func11, Tryz.ntmps11
  go_wp2_with fail
  refine (tuples_law M hM l v w H.out HK.out).mono ?_; rintro e w1 ⟨v1, ts, rfl, hO, hT, hl⟩
  obtain ⟨ad, cap, rfl, h1, h2⟩ := hO.rd.shape
  have HR := Lib.hid hO.rd
  have HE := Lib.hid hO.2
  have HT := Lib.hid hT
  unfold maxLen at h2
  obtain ⟨n, hn⟩ : ∃ n, n = ts.length := ⟨_, rfl⟩
  have HN := Lib.hid hn
  rw [← hn] at HR h1 hl ⊢
  clear hn hO hT
  go_wp2_with fail
  go_loopw [5, 12] (BrR M w1) (fun _ i _ => n - (intOf i).toNat)
  case atStart => exact ⟨0, [], by omega, rfl, OwnG.nil _ _ _ (Ext.refl _), (fun t h => by cases h), rfl, (fun t h => by cases h)⟩
  case round =>
    obtain ⟨k, ps, hk, rfl, hO, hI, hpl, hS⟩ := hrel
    by_cases hlt : k < n
    · have hlt' : k < ts.length := by rw [← HN.out]; exact hlt
      obtain ⟨g, o, rfl, c0', c1', c2', c3'⟩ := rd_T HR.out k hlt'
      have c0 := hO.2.keeps c0'
      have c1 := hO.2.keeps c1'
      have c2 := hO.2.keeps c2'
      have c3 := hO.2.keeps c3'
      have hx := HT.out ts[k] (List.getElem_mem _)
      clear c0' c1' c2' c3'
      generalize ts[k] = x at *
      obtain ⟨⟨xa, xn, xc, xb, xm, xd⟩, xr, pa, pb⟩ := x
      simp only [Hd.x, Hd.y] at c0 c1 c2 c3
      have HP := Lib.hid (show RdRow w1 ⟨⟨xa, xn, xc, xb, xm, xd⟩, xr⟩ from ⟨hx.1.1, hx.1.2⟩)
      have HPS := Lib.hid (show xr.v.length = 2 ∧ xr.t.length = 1 ∧ GdR xr from hx.2.2)
      have HO := Lib.hid hO
      have HI := Lib.hid hI
      have HS := Lib.hid hS
      have HPL := Lib.hid hpl
      clear hx hO hI hS hpl
      go_wp2_with (at_builtin; refine appG tP rfl _ _ rfl w1 _ ps rfl ?a1 _ [(⟨⟨xa, xn, xc, xb, xm, xd⟩, xr⟩ : P)] rfl ?a2 ?a3 ?_; (have z1 := HO.out.ext (((Ext.refl wr).alloc #[.slice xa xn xc, .int .i64 pa, .int .i64 pb, .slice xb xm xd] 84).alloc #[.slice xa xn xc, .slice xb xm xd] 51); case a1 => exact z1); (have z2 := rd_litG (wr.alloc (.cells #[.slice xa xn xc, .int .i64 pa, .int .i64 pb, .slice xb xm xd] 84)) [(⟨⟨xa, xn, xc, xb, xm, xd⟩, xr⟩ : P)] #[.slice xa xn xc, .slice xb xm xd] 51 _ 1 rfl rfl (by simp) rfl; rw [alsz] at z2; case a2 => exact z2); (case a3 => have := HPL.out; simp; omega); intro v5 w5 hO5 hg5)
      go_roundw
      case rel => exact ⟨k + 1, _, by omega, by go_num, hO5, (fun p hp => by
        rcases List.mem_append.1 hp with hp | hp
        · exact HI.out p hp
        · rw [List.mem_singleton.1 hp]; exact HP.out), by rw [List.length_append, HPL.out]; rfl, (fun p hp => by
        rcases List.mem_append.1 hp with hp | hp
        · exact HS.out p hp
        · rw [List.mem_singleton.1 hp]; exact HPS.out)⟩
      case measure => simp [intOf]; omega
    · have HO := Lib.hid hO
      clear hO
      go_wp2_with fail
      go_ret
      exact ⟨_, ps, rfl, HO.out.rd, (fun p hp => (hI p hp).ext HO.out.2), by omega, hS, HE.out.trans HO.out.2⟩
end Go.Proofs.YtbplapkcleipiaaGreatDoor
/- Rows of the laws are small; what Eval hands back, sorted. -/
namespace Go.Proofs.YtbplapkcleipiaaGreatDoor
open Go.ChangeShapes Go.WideShapes Go.ChangeAt Go.RowKit

def Z5 : List Int := [1, 2, 3, 4, 5]
theorem gd_rows {ps : List P} (h : ∀ p ∈ ps, p.r.v.length = 2 ∧ p.r.t.length = 1 ∧ GdR p.r) : RowsB 10 Z5 6 (rows ps) := fun r hr => by
  obtain ⟨p, hp, rfl⟩ := List.mem_map.1 hr
  obtain ⟨a, b, c, d⟩ := h p hp
  refine ⟨by omega, fun v hv => sm_good (by omega) (c v hv), .inl (by omega), fun x hx => ?_⟩
  have := d x hx
  simp only [Z5, List.mem_cons, List.not_mem_nil, or_false]
  omega
/-- these rows, sorted, are handed back -/
def SoP (z : List R) (w : World) (e : Ending) (w' : World) : Prop := ∃ ad cp ds, e = .returned (.tuple #[.slice ad (List.length ds) cp, .int .i64 0]) ∧ RdG w' (.slice ad (List.length ds) cp) (ds : List P) ∧ RdAll w' ds ∧ rows ds = sortR z ∧ Ext w w'
theorem ev_so {w w' : World} {c : List R × Int} {e : Ending} {z : List R} (h : EvP w c e w') (hc : c = (sortR z, 0)) : SoP z w e w' := by
  subst hc
  obtain ⟨v, qs, rfl, h1, h2, h3, h4⟩ := h
  obtain ⟨ad, cp, rfl, _, _⟩ := h1.shape
  exact ⟨ad, cp, qs, rfl, h1, h2, h3, h4⟩
end Go.Proofs.YtbplapkcleipiaaGreatDoor
/- Eval of a query over two tables. -/
namespace Go.Proofs.YtbplapkcleipiaaGreatDoor
open Go.ChangeShapes Go.WideShapes Go.ChangeAt Go.RowKit

/-- Eval of a query over two tables -/
theorem two_eval (es : List X) (ns : List Nd) (z x y : List R) (vn ve vd : Value) (w : World) (hG : PT w) (hn : RdN w vn ns) (he : RdG w ve es) (hd : RdB9 UU w vd (dbs x y)) (hx : RowsB 10 Z5 6 x) (hy : RowsB 10 Z5 6 y) (hg : GoodX 10 es) (hb : Bare ns)
    (hz : evQ clsF es (dbs x y) ns = (sortR z, 0)) : Calls Tryz.prog 12 #[.agg #[vn, ve], vd] w (SoP z w) :=
  (evQ_prg UU 10 Z5 es ns (dbs x y) vn ve vd w hn he hd (up_UU _) hG hg (by omega) (by simp [Z5]) (dbs_bd hx hy) (fun n hn => by rw [(hb n hn).1, (hb n hn).2]; simp) (by simp [dbs])).mono fun _ _ h => ev_so h hz
end Go.Proofs.YtbplapkcleipiaaGreatDoor
/- What Eval gives is bounded as its tables are. -/
namespace Go.Proofs.YtbplapkcleipiaaGreatDoor
open Go.ChangeShapes Go.WideShapes Go.ChangeAt Go.RowKit

theorem getLastD_at {α : Type} (l : List α) (d : α) (h : 0 < l.length) : l.getLastD d = l[l.length - 1] := by
  rw [List.getLastD_eq_getLast?, List.getLast?_eq_getElem?, List.getElem?_eq_getElem (by omega)]
  rfl
theorem evq_good {T : Nat} {Z : List Int} {es : List X} {db : List Tb} {ns : List Nd} {l : List R} (hx : GoodX T es) (hbd : ∀ tb ∈ db, RowsB T Z 6 tb.l) (h : evQ clsF es db ns = (l, 0)) : l.length ≤ 4096 ∧ RowsB T Z 384 l := by
  unfold evQ at h
  by_cases c0 : (colQ es (db.map Tb.t) ns).2 = 0
  · by_cases e0 : (evsQ clsF es db (colQ es (db.map Tb.t) ns).1 ns []).2 = 0
    · simp only [c0, e0, ne_eq, not_true_eq_false, if_false, Prod.mk.injEq, and_true] at h
      have hq : colQ es (db.map Tb.t) ns = ((colQ es (db.map Tb.t) ns).1, 0) := Prod.ext rfl c0
      obtain ⟨r1, r2⟩ := evs_good (T := T) (Z := Z) (cols := (colQ es (db.map Tb.t) ns).1) hx hbd ns [] (fun i hi => by have := (isIx_iff _ _).1 hi; simp at this; omega) (Nat.zero_le _) (by simpa using colQ_at hq) e0
      obtain ⟨n1, n2, _⟩ := colQ_len es (db.map Tb.t) ns c0
      have hw := colQ_wid es (db.map Tb.t) ns
      generalize (evsQ clsF es db (colQ es (db.map Tb.t) ns).1 ns []).1 = d at *
      generalize (colQ es (db.map Tb.t) ns).1 = cols at *
      simp only [List.length_nil, Nat.zero_add] at r1 r2
      have hd : 0 < d.length := by omega
      have hi : isIx ((d.length - 1 : Nat) : Int) d.length = true := (isIx_iff _ _).2 ⟨Int.natCast_nonneg _, by omega⟩
      obtain ⟨g1, g2⟩ := r2 _ hi
      have hat : atL d ((d.length - 1 : Nat) : Int) = d.getLastD [] := by
        rw [getLastD_at d [] hd]
        have hlt : d.length - 1 < d.length := by omega
        simp [atL, List.getD, hlt]
      rw [hat] at g1 g2
      subst h
      refine ⟨by rw [sortR_len]; exact g1, fun r hr => (g2 r ((sortR_perm _).mem_iff.1 hr)).mono ?_⟩
      have hcl : (atC (cols.take ns.length) ((d.length - 1 : Nat) : Int)).length ≤ 64 := by
        have hm : d.length - 1 < (cols.take ns.length).length := by rw [List.length_take]; omega
        have e : atC (cols.take ns.length) ((d.length - 1 : Nat) : Int) = (cols.take ns.length)[d.length - 1] := by simp only [atC, List.getD, Int.toNat_natCast, List.getElem?_eq_getElem hm, Option.getD_some]
        rw [e]
        exact hw _ (List.mem_of_mem_take (List.getElem_mem hm))
      omega
    · simp only [c0, e0, ne_eq, not_true_eq_false, not_false_eq_true, if_false, if_true, Prod.mk.injEq] at h
      exact h.2.elim
  · simp only [c0, ne_eq, not_false_eq_true, if_true, Prod.mk.injEq] at h
    exact h.2.elim
theorem small_good {T : Nat} {Z : List Int} {ps : List P} (hZ : Z.length ≤ 10000) (h : RowsB T Z 384 (rows ps)) : ∀ p ∈ ps, p.r.v.length ≤ 1000000 ∧ p.r.t.length ≤ 1000000 := fun p hp => by
  have hb := h p.r (List.mem_map.2 ⟨p, hp, rfl⟩)
  have := hb.tl hZ
  have := hb.wd
  omega
end Go.Proofs.YtbplapkcleipiaaGreatDoor
/- Classes and multiplicities of Except and Intersect, in plain lists. -/
namespace Go.Proofs.YtbplapkcleipiaaGreatDoor

theorem cnt_rep (n : Nat) (r : R) (v : List V) : cnt (List.replicate n r) v = if r.v = v then n else 0 := by
  unfold cnt
  rw [List.countP_replicate]
  by_cases h : r.v = v <;> simp [h]
theorem cnt_appR (a b : List R) (v : List V) : cnt (a ++ b) v = cnt a v + cnt b v := by unfold cnt; rw [List.countP_append]
theorem cmb_no (f : Nat → Nat → Nat) (x : List R) (v : List V) : ∀ cs : List Cl, v ∉ cs.map Prod.fst → cnt (cs.flatMap (cmbC f x)) v = 0
  | [], _ => rfl
  | c :: cs, h => by
    simp only [List.map_cons, List.mem_cons, not_or] at h
    rw [List.flatMap_cons, cnt_appR, cmb_no f x v cs h.2]
    unfold cmbC
    rw [cnt_rep, if_neg (fun e => h.1 e.symm)]
theorem cmb_cnt (f : Nat → Nat → Nat) (x : List R) (v : List V) : ∀ cs : List Cl, (cs.map Prod.fst).Nodup → ∀ c ∈ cs, c.1 = v → cnt (cs.flatMap (cmbC f x)) v = f (cnt x v) (c.2.length - cnt x v)
  | [], _, c, hc, _ => by cases hc
  | d :: cs, hn, c, hc, e => by
    simp only [List.map_cons, List.nodup_cons] at hn
    rw [List.flatMap_cons, cnt_appR]
    rcases List.mem_cons.1 hc with rfl | hc
    · rw [cmb_no f x v cs (by rw [← e]; exact hn.1)]
      unfold cmbC
      rw [cnt_rep, if_pos e, e]; rfl
    · have hne : ¬ d.1 = v := fun h => hn.1 (by rw [h, ← e]; exact List.mem_map_of_mem hc)
      rw [cmb_cnt f x v cs hn.2 c hc e]
      unfold cmbC
      rw [cnt_rep, if_neg hne, Nat.zero_add]
theorem cls_at {x y : List R} {v : List V} (h : 0 < cnt (x ++ y) v) : ∃ c ∈ clsF R.v (x ++ y), c.1 = v ∧ c.2.length = cnt (x ++ y) v := by
  have hi := clsF_isC R.v (x ++ y)
  obtain ⟨r, hr, hv⟩ := List.countP_pos_iff.1 h
  obtain ⟨c, hc, e⟩ := List.mem_map.1 ((hi.mem v).2 (List.mem_map.2 ⟨r, hr, by simpa using hv⟩))
  refine ⟨c, hc, e, ?_⟩
  rw [(hi.cls c hc).length_eq, ← List.countP_eq_length_filter, e]; rfl
theorem bal_cnt (x y : List R) (v : List V) (h : 0 < cnt (x ++ y) v) : cnt ((clsF R.v (x ++ y)).flatMap (cmbC timE x)) v + cnt ((clsF R.v (x ++ y)).flatMap (cmbC timI x)) v = cnt x v := by
  obtain ⟨c, hc, e, hl⟩ := cls_at h
  have hn := (clsF_isC R.v (x ++ y)).nd
  rw [cmb_cnt timE x v _ hn c hc e, cmb_cnt timI x v _ hn c hc e, hl, cnt_appR]
  unfold timE timI
  omega
theorem keys_one (v : List V) : ∀ cs : List Cl, (cs.map Prod.fst).Nodup → v ∈ cs.map Prod.fst → (cs.map fun c => if v = c.1 then 1 else 0).sum = 1
  | [], _, h => by cases h
  | c :: cs, hn, h => by
    simp only [List.map_cons, List.nodup_cons] at hn
    simp only [List.map_cons, List.sum_cons]
    have zero : ∀ cs : List Cl, v ∉ cs.map Prod.fst → (cs.map fun c => if v = c.1 then 1 else 0).sum = 0 := by
      intro cs
      induction cs with
      | nil => intro _; rfl
      | cons d cs ih =>
        intro h
        simp only [List.map_cons, List.mem_cons, not_or] at h
        simp only [List.map_cons, List.sum_cons, ih h.2, if_neg h.1]
    by_cases e : v = c.1
    · rw [if_pos e, zero cs (by rw [e]; exact hn.1)]
    · rw [if_neg e, keys_one v cs hn.2 (by simpa [e] using h)]
theorem sum_cnt (cs : List Cl) (hn : (cs.map Prod.fst).Nodup) : ∀ x : List R, (∀ r ∈ x, r.v ∈ cs.map Prod.fst) → (cs.map fun c => cnt x c.1).sum = x.length
  | [], _ => by
    have : ∀ cs : List Cl, (cs.map fun c => cnt [] c.1).sum = 0 := fun cs => by induction cs with
      | nil => rfl
      | cons c cs ih => simp only [List.map_cons, List.sum_cons, ih]; rfl
    rw [this]; rfl
  | r :: x, h => by
    have ih := sum_cnt cs hn x fun q hq => h q (List.mem_cons_of_mem _ hq)
    have h1 := keys_one r.v cs hn (h r (by simp))
    have e : ∀ cs : List Cl, (cs.map fun c => cnt (r :: x) c.1).sum = (cs.map fun c => cnt x c.1).sum + (cs.map fun c => if r.v = c.1 then 1 else 0).sum := fun cs => by induction cs with
      | nil => rfl
      | cons c cs ih =>
        simp only [List.map_cons, List.sum_cons, ih]
        have : cnt (r :: x) c.1 = cnt x c.1 + if r.v = c.1 then 1 else 0 := by
          unfold cnt; rw [List.countP_cons]; simp
        omega
    rw [e, ih, h1]; rfl
theorem bal_len (x y : List R) : ((clsF R.v (x ++ y)).flatMap (cmbC timE x)).length + ((clsF R.v (x ++ y)).flatMap (cmbC timI x)).length = x.length := by
  have hi := clsF_isC R.v (x ++ y)
  have h := sum_cnt (clsF R.v (x ++ y)) hi.nd x fun r hr => (hi.mem r.v).2 (List.mem_map_of_mem (List.mem_append_left _ hr))
  have e : ∀ cs : List Cl, (cs.flatMap (cmbC timE x)).length + (cs.flatMap (cmbC timI x)).length = (cs.map fun c => cnt x c.1).sum := fun cs => by induction cs with
    | nil => rfl
    | cons c cs ih =>
      have l1 : (cmbC timE x c).length = cnt x c.1 - (c.2.length - cnt x c.1) := by unfold cmbC timE; rw [List.length_replicate]
      have l2 : (cmbC timI x c).length = min (cnt x c.1) (c.2.length - cnt x c.1) := by unfold cmbC timI; rw [List.length_replicate]
      simp only [List.flatMap_cons, List.length_append, List.map_cons, List.sum_cons, l1, l2]
      omega
  rw [e, h]
end Go.Proofs.YtbplapkcleipiaaGreatDoor
