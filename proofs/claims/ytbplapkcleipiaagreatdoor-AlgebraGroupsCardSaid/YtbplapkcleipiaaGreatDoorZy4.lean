/- The laws' builder of tuples. -/
import Derived.Test.YtbplapkcleipiaaGreatDoorZy3
namespace Go.Proofs.YtbplapkcleipiaaGreatDoor
open Go.ChangeShapes Go.WideShapes Go.ChangeAt Go.RowKit

set_option maxHeartbeats 8000000 in
set_option maxRecDepth 100000 in
theorem tuple_law (x : Five) (hx : x.ok) (w : World) : Calls Tryz.prog 46 #[x.v] w (BtP w) := by
  obtain ⟨a, b, c, d, z⟩ := x
  obtain ⟨⟨a0, a1⟩, ⟨b0, b1⟩, ⟨c0, c1⟩, ⟨d0, d1⟩, ⟨z0, z1⟩⟩ := hx
  simp only at a0 a1 b0 b1 c0 c1 d0 d1 z0 z1
  have HV := Lib.hid (fun w => vals_law c d c0 c1 d0 d1 w)
  have HP := Lib.hid (fun w => period_law a b a0 a1 b0 b1 w)
  obtain ⟨m, hm⟩ : ∃ m, m = z % 5 := ⟨_, rfl⟩
  have hm1 : Int.tmod z 5 = m := by rw [Int.tmod_eq_emod_of_nonneg z0]; exact hm.symm
  have hm2 := hm.symm
  have hmb : 0 ≤ m ∧ m ≤ 4 := by omega
  have wm1 := wrapU m (by omega) (by omega)
  have wm2 := wrapI m (by omega) (by omega)
  have wm3 := wrapI (1 + m) (by omega) (by omega)
  clear hm a0 a1 b0 b1 c0 c1 d0 d1 z0 z1
  go_enter Tryz.func46, Tryz.ntmps46
  have b0 : ((w.alloc (.cells #[.int .u16 a, .int .u16 b, .int .u16 c, .int .u16 d, .int .u16 z] 78)).alloc (.cells #[.slice none 0 0, .int .i64 0, .int .i64 0, .slice none 0 0] 84)).cell? ⟨w.heap.size, 0, none⟩ = some (.int .u16 a) := ((Ext.refl _).alloc _ _).keeps (al_c w _ _ 0 _ rfl)
  have b1 : ((w.alloc (.cells #[.int .u16 a, .int .u16 b, .int .u16 c, .int .u16 d, .int .u16 z] 78)).alloc (.cells #[.slice none 0 0, .int .i64 0, .int .i64 0, .slice none 0 0] 84)).cell? ⟨w.heap.size, 1, none⟩ = some (.int .u16 b) := ((Ext.refl _).alloc _ _).keeps (al_c w _ _ 1 _ rfl)
  have b2 : ((w.alloc (.cells #[.int .u16 a, .int .u16 b, .int .u16 c, .int .u16 d, .int .u16 z] 78)).alloc (.cells #[.slice none 0 0, .int .i64 0, .int .i64 0, .slice none 0 0] 84)).cell? ⟨w.heap.size, 2, none⟩ = some (.int .u16 c) := ((Ext.refl _).alloc _ _).keeps (al_c w _ _ 2 _ rfl)
  have b3 : ((w.alloc (.cells #[.int .u16 a, .int .u16 b, .int .u16 c, .int .u16 d, .int .u16 z] 78)).alloc (.cells #[.slice none 0 0, .int .i64 0, .int .i64 0, .slice none 0 0] 84)).cell? ⟨w.heap.size, 3, none⟩ = some (.int .u16 d) := ((Ext.refl _).alloc _ _).keeps (al_c w _ _ 3 _ rfl)
  have b4 : ((w.alloc (.cells #[.int .u16 a, .int .u16 b, .int .u16 c, .int .u16 d, .int .u16 z] 78)).alloc (.cells #[.slice none 0 0, .int .i64 0, .int .i64 0, .slice none 0 0] 84)).cell? ⟨w.heap.size, 4, none⟩ = some (.int .u16 z) := ((Ext.refl _).alloc _ _).keeps (al_c w _ _ 4 _ rfl)
  have b5 : ((w.alloc (.cells #[.int .u16 a, .int .u16 b, .int .u16 c, .int .u16 d, .int .u16 z] 78)).alloc (.cells #[.slice none 0 0, .int .i64 0, .int .i64 0, .slice none 0 0] 84)).cell? ⟨w.heap.size + 1, 0, none⟩ = some (.slice none 0 0) := by have := al_c (w.alloc (.cells #[.int .u16 a, .int .u16 b, .int .u16 c, .int .u16 d, .int .u16 z] 78)) #[.slice none 0 0, .int .i64 0, .int .i64 0, .slice none 0 0] 84 0 _ rfl; rw [alsz] at this; exact this
  have b6 : ((w.alloc (.cells #[.int .u16 a, .int .u16 b, .int .u16 c, .int .u16 d, .int .u16 z] 78)).alloc (.cells #[.slice none 0 0, .int .i64 0, .int .i64 0, .slice none 0 0] 84)).cell? ⟨w.heap.size + 1, 1, none⟩ = some (.int .i64 0) := by have := al_c (w.alloc (.cells #[.int .u16 a, .int .u16 b, .int .u16 c, .int .u16 d, .int .u16 z] 78)) #[.slice none 0 0, .int .i64 0, .int .i64 0, .slice none 0 0] 84 1 _ rfl; rw [alsz] at this; exact this
  have b7 : ((w.alloc (.cells #[.int .u16 a, .int .u16 b, .int .u16 c, .int .u16 d, .int .u16 z] 78)).alloc (.cells #[.slice none 0 0, .int .i64 0, .int .i64 0, .slice none 0 0] 84)).cell? ⟨w.heap.size + 1, 2, none⟩ = some (.int .i64 0) := by have := al_c (w.alloc (.cells #[.int .u16 a, .int .u16 b, .int .u16 c, .int .u16 d, .int .u16 z] 78)) #[.slice none 0 0, .int .i64 0, .int .i64 0, .slice none 0 0] 84 2 _ rfl; rw [alsz] at this; exact this
  have b8 : ((w.alloc (.cells #[.int .u16 a, .int .u16 b, .int .u16 c, .int .u16 d, .int .u16 z] 78)).alloc (.cells #[.slice none 0 0, .int .i64 0, .int .i64 0, .slice none 0 0] 84)).cell? ⟨w.heap.size + 1, 3, none⟩ = some (.slice none 0 0) := by have := al_c (w.alloc (.cells #[.int .u16 a, .int .u16 b, .int .u16 c, .int .u16 d, .int .u16 z] 78)) #[.slice none 0 0, .int .i64 0, .int .i64 0, .slice none 0 0] 84 3 _ rfl; rw [alsz] at this; exact this
  have b9 : ((w.alloc (.cells #[.int .u16 a, .int .u16 b, .int .u16 c, .int .u16 d, .int .u16 z] 78)).alloc (.cells #[.slice none 0 0, .int .i64 0, .int .i64 0, .slice none 0 0] 84)).frozen? ⟨w.heap.size + 1, 0, none⟩ = false := World.frozen?_alloc_at _ _ _ _ (by rw [alsz])
  have b10 : ((w.alloc (.cells #[.int .u16 a, .int .u16 b, .int .u16 c, .int .u16 d, .int .u16 z] 78)).alloc (.cells #[.slice none 0 0, .int .i64 0, .int .i64 0, .slice none 0 0] 84)).frozen? ⟨w.heap.size + 1, 1, none⟩ = false := World.frozen?_alloc_at _ _ _ _ (by rw [alsz])
  have b11 : ((w.alloc (.cells #[.int .u16 a, .int .u16 b, .int .u16 c, .int .u16 d, .int .u16 z] 78)).alloc (.cells #[.slice none 0 0, .int .i64 0, .int .i64 0, .slice none 0 0] 84)).frozen? ⟨w.heap.size + 1, 2, none⟩ = false := World.frozen?_alloc_at _ _ _ _ (by rw [alsz])
  have b12 : ((w.alloc (.cells #[.int .u16 a, .int .u16 b, .int .u16 c, .int .u16 d, .int .u16 z] 78)).alloc (.cells #[.slice none 0 0, .int .i64 0, .int .i64 0, .slice none 0 0] 84)).frozen? ⟨w.heap.size + 1, 3, none⟩ = false := World.frozen?_alloc_at _ _ _ _ (by rw [alsz])
  have hX0 : Ext w ((w.alloc (.cells #[.int .u16 a, .int .u16 b, .int .u16 c, .int .u16 d, .int .u16 z] 78)).alloc (.cells #[.slice none 0 0, .int .i64 0, .int .i64 0, .slice none 0 0] 84)) := ((Ext.refl _).alloc _ _).alloc _ _
  go_wp2_with fail
  generalize (w.alloc (.cells #[.int .u16 a, .int .u16 b, .int .u16 c, .int .u16 d, .int .u16 z] 78)).alloc (.cells #[.slice none 0 0, .int .i64 0, .int .i64 0, .slice none 0 0] 84) = w0 at *
  have K0 := Lib.hid b0
  have K1 := Lib.hid b1
  have K2 := Lib.hid b2
  have K3 := Lib.hid b3
  have K4 := Lib.hid b4
  have K5 := Lib.hid b5
  have K6 := Lib.hid b6
  have K7 := Lib.hid b7
  have K8 := Lib.hid b8
  have K9 := Lib.hid b9
  have K10 := Lib.hid b10
  have K11 := Lib.hid b11
  have K12 := Lib.hid b12
  have HX0 := Lib.hid hX0
  have hB0 : w.heap.size + 1 < w0.heap.size := World.block_lt_of_cell? _ _ b5
  have HB0 := Lib.hid hB0
  clear hX0 b0 b1 b2 b3 b4 b5 b6 b7 b8 b9 b10 b11 b12
  have HSET := Lib.hid (show ∀ (X : World) (p q r s : Value), (X.cell? ⟨w.heap.size, 0, none⟩ = some (.int .u16 a) ∧ X.cell? ⟨w.heap.size, 1, none⟩ = some (.int .u16 b) ∧ X.cell? ⟨w.heap.size, 2, none⟩ = some (.int .u16 c) ∧ X.cell? ⟨w.heap.size, 3, none⟩ = some (.int .u16 d) ∧ X.cell? ⟨w.heap.size, 4, none⟩ = some (.int .u16 z)) → (((((X.setCell ⟨w.heap.size + 1, 0, none⟩ p).setCell ⟨w.heap.size + 1, 1, none⟩ q).setCell ⟨w.heap.size + 1, 2, none⟩ r).setCell ⟨w.heap.size + 1, 3, none⟩ s).cell? ⟨w.heap.size, 0, none⟩ = some (.int .u16 a) ∧ ((((X.setCell ⟨w.heap.size + 1, 0, none⟩ p).setCell ⟨w.heap.size + 1, 1, none⟩ q).setCell ⟨w.heap.size + 1, 2, none⟩ r).setCell ⟨w.heap.size + 1, 3, none⟩ s).cell? ⟨w.heap.size, 1, none⟩ = some (.int .u16 b) ∧ ((((X.setCell ⟨w.heap.size + 1, 0, none⟩ p).setCell ⟨w.heap.size + 1, 1, none⟩ q).setCell ⟨w.heap.size + 1, 2, none⟩ r).setCell ⟨w.heap.size + 1, 3, none⟩ s).cell? ⟨w.heap.size, 2, none⟩ = some (.int .u16 c) ∧ ((((X.setCell ⟨w.heap.size + 1, 0, none⟩ p).setCell ⟨w.heap.size + 1, 1, none⟩ q).setCell ⟨w.heap.size + 1, 2, none⟩ r).setCell ⟨w.heap.size + 1, 3, none⟩ s).cell? ⟨w.heap.size, 3, none⟩ = some (.int .u16 d) ∧ ((((X.setCell ⟨w.heap.size + 1, 0, none⟩ p).setCell ⟨w.heap.size + 1, 1, none⟩ q).setCell ⟨w.heap.size + 1, 2, none⟩ r).setCell ⟨w.heap.size + 1, 3, none⟩ s).cell? ⟨w.heap.size, 4, none⟩ = some (.int .u16 z)) from fun X p q r s h => ⟨set4_cell (by omega) h.1, set4_cell (by omega) h.2.1, set4_cell (by omega) h.2.2.1, set4_cell (by omega) h.2.2.2.1, set4_cell (by omega) h.2.2.2.2⟩)
  have HALC := Lib.hid (show ∀ (X : World) (cc : Array Value) (t : TypeId), (X.cell? ⟨w.heap.size, 0, none⟩ = some (.int .u16 a) ∧ X.cell? ⟨w.heap.size, 1, none⟩ = some (.int .u16 b) ∧ X.cell? ⟨w.heap.size, 2, none⟩ = some (.int .u16 c) ∧ X.cell? ⟨w.heap.size, 3, none⟩ = some (.int .u16 d) ∧ X.cell? ⟨w.heap.size, 4, none⟩ = some (.int .u16 z)) → ((X.alloc (.cells cc t)).cell? ⟨w.heap.size, 0, none⟩ = some (.int .u16 a) ∧ (X.alloc (.cells cc t)).cell? ⟨w.heap.size, 1, none⟩ = some (.int .u16 b) ∧ (X.alloc (.cells cc t)).cell? ⟨w.heap.size, 2, none⟩ = some (.int .u16 c) ∧ (X.alloc (.cells cc t)).cell? ⟨w.heap.size, 3, none⟩ = some (.int .u16 d) ∧ (X.alloc (.cells cc t)).cell? ⟨w.heap.size, 4, none⟩ = some (.int .u16 z)) from fun X cc t h => ⟨((Ext.refl X).alloc cc t).keeps h.1, ((Ext.refl X).alloc cc t).keeps h.2.1, ((Ext.refl X).alloc cc t).keeps h.2.2.1, ((Ext.refl X).alloc cc t).keeps h.2.2.2.1, ((Ext.refl X).alloc cc t).keeps h.2.2.2.2⟩)
  have HSAL := Lib.hid (fun (X : World) (p q r s : Value) (cc : Array Value) (t : TypeId) h => HALC.out _ cc t (HSET.out X p q r s h))
  have HS0 := Lib.hid (show w0.cell? ⟨w.heap.size, 0, none⟩ = some (.int .u16 a) ∧ w0.cell? ⟨w.heap.size, 1, none⟩ = some (.int .u16 b) ∧ w0.cell? ⟨w.heap.size, 2, none⟩ = some (.int .u16 c) ∧ w0.cell? ⟨w.heap.size, 3, none⟩ = some (.int .u16 d) ∧ w0.cell? ⟨w.heap.size, 4, none⟩ = some (.int .u16 z) from ⟨K0.out, K1.out, K2.out, K3.out, K4.out⟩)
  have HDRW := Lib.hid (show ∀ X : World, (X.cell? ⟨w.heap.size, 0, none⟩ = some (.int .u16 a) ∧ X.cell? ⟨w.heap.size, 1, none⟩ = some (.int .u16 b) ∧ X.cell? ⟨w.heap.size, 2, none⟩ = some (.int .u16 c) ∧ X.cell? ⟨w.heap.size, 3, none⟩ = some (.int .u16 d) ∧ X.cell? ⟨w.heap.size, 4, none⟩ = some (.int .u16 z)) → (X.drew.cell? ⟨w.heap.size, 0, none⟩ = some (.int .u16 a) ∧ X.drew.cell? ⟨w.heap.size, 1, none⟩ = some (.int .u16 b) ∧ X.drew.cell? ⟨w.heap.size, 2, none⟩ = some (.int .u16 c) ∧ X.drew.cell? ⟨w.heap.size, 3, none⟩ = some (.int .u16 d) ∧ X.drew.cell? ⟨w.heap.size, 4, none⟩ = some (.int .u16 z)) from fun X h => h)
  go_region_held3 (fun w' => w'.cell? ⟨w.heap.size, 0, none⟩ = some (.int .u16 a) ∧ w'.cell? ⟨w.heap.size, 1, none⟩ = some (.int .u16 b) ∧ w'.cell? ⟨w.heap.size, 2, none⟩ = some (.int .u16 c) ∧ w'.cell? ⟨w.heap.size, 3, none⟩ = some (.int .u16 d) ∧ w'.cell? ⟨w.heap.size, 4, none⟩ = some (.int .u16 z)) (first | with_reducible exact HS0.out | with_reducible exact hsf | with_reducible exact hsg | with_reducible exact HDRW.out _ (by assumption) | with_reducible exact HALC.out _ _ _ (by assumption) | with_reducible exact HSET.out _ _ _ _ _ (by assumption) | with_reducible exact HSAL.out _ _ _ _ _ _ _ (by assumption) | with_reducible exact HDRW.out _ HS0.out | with_reducible exact HDRW.out _ (HALC.out _ _ _ HS0.out))
    (first | (go_at_call 33; refine (HV.out _).mono ?_; rintro e w3 ⟨v3, l3, rfl, hO3, hl3, hs3⟩; have HL3 := Lib.hid hl3; have HSM3 := Lib.hid hs3; clear hl3 hs3; obtain ⟨a3, c3, rfl, _, _⟩ := hO3.rd.shape; have hO3' : OwnG tV.e w0 w3 (.slice a3 l3.length c3) l3 := (by first | exact hO3 | exact hO3.base (Ext.refl w0).drew | exact hO3.base ((Ext.refl w0).alloc _ _) | exact hO3.base ((Ext.refl w0).drew.alloc _ _)); have e3 : Ext w0 w3 := hO3'.2; have hb3 : w.heap.size + 1 < w3.heap.size := Nat.lt_of_lt_of_le HB0.out e3.2.2; have HO3 := Lib.hid hO3'; have HQ3 := Lib.hid hO3.2; clear hO3 hO3'; have f0 := e3.keeps K0.out; have f1 := e3.keeps K1.out; have f2 := e3.keeps K2.out; have f3 := e3.keeps K3.out; have f4 := e3.keeps K4.out; have f5 := e3.keeps K5.out; have f6 := e3.keeps K6.out; have f7 := e3.keeps K7.out; have f8 := e3.keeps K8.out; have f9 := (e3.2.1 ⟨w.heap.size + 1, 0, none⟩ HB0.out).trans K9.out; have f10 := (e3.2.1 ⟨w.heap.size + 1, 1, none⟩ HB0.out).trans K10.out; have f11 := (e3.2.1 ⟨w.heap.size + 1, 2, none⟩ HB0.out).trans K11.out; have f12 := (e3.2.1 ⟨w.heap.size + 1, 3, none⟩ HB0.out).trans K12.out; have hsf : w3.cell? ⟨w.heap.size, 0, none⟩ = some (.int .u16 a) ∧ w3.cell? ⟨w.heap.size, 1, none⟩ = some (.int .u16 b) ∧ w3.cell? ⟨w.heap.size, 2, none⟩ = some (.int .u16 c) ∧ w3.cell? ⟨w.heap.size, 3, none⟩ = some (.int .u16 d) ∧ w3.cell? ⟨w.heap.size, 4, none⟩ = some (.int .u16 z) := ⟨f0, f1, f2, f3, f4⟩) | (go_at_call 61; refine (HP.out _).mono ?_; rintro e w4 ⟨pa, pb, rfl, hE4⟩; have e4 : Ext w3 w4 := (by first | exact hE4 | exact (Ext.refl w3).drew.trans hE4 | exact ((Ext.refl w3).alloc _ _).trans hE4 | exact ((Ext.refl w3).drew.alloc _ _).trans hE4); have HE4 := Lib.hid e4; have hb4 : w.heap.size + 1 < w4.heap.size := Nat.lt_of_lt_of_le hb3 e4.2.2; have HQ4 := Lib.hid hE4; clear hE4; have g0 := e4.keeps f0; have g1 := e4.keeps f1; have g2 := e4.keeps f2; have g3 := e4.keeps f3; have g4 := e4.keeps f4; have g5 := e4.keeps f5; have g6 := e4.keeps f6; have g7 := e4.keeps f7; have g8 := e4.keeps f8; have g9 := (e4.2.1 ⟨w.heap.size + 1, 0, none⟩ hb3).trans f9; have g10 := (e4.2.1 ⟨w.heap.size + 1, 1, none⟩ hb3).trans f10; have g11 := (e4.2.1 ⟨w.heap.size + 1, 2, none⟩ hb3).trans f11; have g12 := (e4.2.1 ⟨w.heap.size + 1, 3, none⟩ hb3).trans f12; have hsg : w4.cell? ⟨w.heap.size, 0, none⟩ = some (.int .u16 a) ∧ w4.cell? ⟨w.heap.size, 1, none⟩ = some (.int .u16 b) ∧ w4.cell? ⟨w.heap.size, 2, none⟩ = some (.int .u16 c) ∧ w4.cell? ⟨w.heap.size, 3, none⟩ = some (.int .u16 d) ∧ w4.cell? ⟨w.heap.size, 4, none⟩ = some (.int .u16 z) := ⟨g0, g1, g2, g3, g4⟩))
  · go_wp2_with fail
    have O := (HO3.out.base HX0.out).ext HE4.out
    have N := own_ne HO3.out (w.heap.size + 1) HB0.out
    have hb0 := HB0.out
    exact bodyPost_ret (v := .agg #[.slice a3 l3.length c3, .int .i64 pa, .int .i64 pb, .slice (some ⟨w4.heap.size, 0, none⟩) 1 1]) (by simp [results, Tryz.results46, go_sem, g5, g6, g7, g8, hb4]) rfl ⟨_, l3, _, [1 + m], pa, pb, rfl, (own_set4 O (w.heap.size + 1) _ _ _ _ (by omega) N).ext ((Ext.refl _).alloc _ _), own_litB tI.e (own_set4 O (w.heap.size + 1) _ _ _ _ (by omega) N).2 [1 + m] #[Value.int .i64 (1 + m)] _ 1 (by simp [World.setCell]) rfl (by simp) rfl, HL3.out, rfl, HSM3.out, fun x hx => by simp only [List.mem_cons, List.not_mem_nil, or_false] at hx; subst hx; omega⟩
  · go_wp2_with fail
    have O := (HO3.out.base HX0.out).ext HE4.out
    have N := own_ne HO3.out (w.heap.size + 1) HB0.out
    have hb0 := HB0.out
    exact bodyPost_ret (v := .agg #[.slice a3 l3.length c3, .int .i64 pa, .int .i64 pb, .slice (some ⟨w3.heap.size, 0, none⟩) 1 1]) (by simp [results, Tryz.results46, go_sem, g5, g6, g7, g8]) rfl ⟨_, l3, _, [1 + m], pa, pb, rfl, own_set4 O (w.heap.size + 1) _ _ _ _ (by omega) N, own_set4 ((own_litB tI.e (HX0.out.trans e3) [1 + m] #[Value.int .i64 (1 + m)] _ 1 rfl rfl (by simp) rfl).ext HQ4.out) (w.heap.size + 1) _ _ _ _ (by omega) (fun g hg => by injection hg with hg; simp only at hg; omega), HL3.out, rfl, HSM3.out, fun x hx => by simp only [List.mem_cons, List.not_mem_nil, or_false] at hx; subst hx; omega⟩
  · go_wp2_with fail
    have O := (HO3.out.base HX0.out).ext HE4.out
    have N := own_ne HO3.out (w.heap.size + 1) HB0.out
    have hb0 := HB0.out
    exact bodyPost_ret (v := .agg #[.slice a3 l3.length c3, .int .i64 pa, .int .i64 pb, .slice (some ⟨w0.heap.size, 0, none⟩) 1 1]) (by simp [results, Tryz.results46, go_sem, g5, g6, g7, g8]) rfl ⟨_, l3, _, [1 + m], pa, pb, rfl, own_set4 O (w.heap.size + 1) _ _ _ _ (by omega) N, own_set4 ((own_litB tI.e HX0.out [1 + m] #[Value.int .i64 (1 + m)] _ 1 rfl rfl (by simp) rfl).ext (Ext.trans HQ3.out HE4.out)) (w.heap.size + 1) _ _ _ _ (by omega) (fun g hg => by injection hg with hg; simp only at hg; omega), HL3.out, rfl, HSM3.out, fun x hx => by simp only [List.mem_cons, List.not_mem_nil, or_false] at hx; subst hx; omega⟩
end Go.Proofs.YtbplapkcleipiaaGreatDoor
