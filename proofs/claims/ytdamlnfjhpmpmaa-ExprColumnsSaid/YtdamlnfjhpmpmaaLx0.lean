/- awake, few, IntValue: what all laws on expressions begin with. -/
import Derived.Test.YtdamlnfjhpmpmaaCol
namespace Go.Proofs.Ytdamlnfjhpmpmaa
open Go.ChangeShapes Go.WideShapes Go.ChangeAt Go.RowKit

theorem al_g (w : World) (c : Array Value) (t : TypeId) (j : Nat) (v : Value) (h : c[j]? = some v) : (w.alloc (.cells c t)).cell? ⟨w.heap.size, j, none⟩ = some v := al_c w c t j v h
/-- a slice that the code writes out -/
theorem rd_litG {α : Type} [Enc α] (w : World) (l : List α) (c : Array Value) (t : TypeId) (n k : Nat) (hn : n = w.heap.size) (hk : k = l.length) (hl : l.length ≤ 1000) (hc : c.toList = cellsG l) : RdG (w.alloc (.cells c t)) (.slice (some ⟨n, 0, none⟩) k k) l := by
  subst hn hk
  refine ⟨some ⟨w.heap.size, 0, none⟩, l.length, rfl, Nat.le_refl _, by unfold maxLen; omega, fun h => (by cases h), fun i hi => ⟨_, _, rfl, fun j u hu => ?_⟩⟩
  refine al_g w c t _ u ?_
  have hj : j < Enc.sz α := by have := (List.getElem?_eq_some_iff.1 hu).1; rw [Enc.len] at this; exact this
  have e := cellsG_at l i j hi hj
  rw [hu] at e
  rw [← Array.getElem?_toList, hc, Nat.zero_add]
  exact e
set_option maxHeartbeats 1000000 in
theorem int_val (z : Int) (w : World) : Calls Try.prog 20 #[.int .i64 z] w fun e w' => e = .returned (vv ⟨1, z, []⟩) ∧ Ext w w' := by
  go_enter Try.func20, Try.ntmps20
  go_wp2_with fail
  exact bodyPost_ret (v := vv ⟨1, z, []⟩) (by simp [results, Try.results20, go_sem, vv]) rfl ⟨rfl, by repeat (first | exact Ext.refl _ | refine Ext.alloc ?_ _ _ | refine Ext.setNew ?_ _ _ (by simp; try omega) _)⟩
def fewB (n k : Int) : Bool := decide (n ≤ 220) && decide (k ≤ 60)
set_option maxHeartbeats 1000000 in
theorem few_law (l : List X) (vl : Value) (k : Int) (w : World) (hl : RdG w vl l) : Calls Try.prog 11 #[vl, .int .i64 k] w fun e w' => e = .returned (.bool (fewB l.length k)) ∧ w = w' := by
  obtain ⟨al, cl, rfl, ll1, ll2⟩ := hl.shape
  have H := Lib.hid (show fewB l.length k = (decide ((l.length : Int) ≤ 220) && decide (k ≤ 60)) from rfl)
  clear hl ll1 ll2
  by_cases h1 : (l.length : Int) ≤ 220
  · go_enter Try.func11, Try.ntmps11
    go_wp2_with fail
    go_ret
    exact ⟨ret_bool (by rw [H.out]; simp [h1]), rfl⟩
  · go_enter Try.func11, Try.ntmps11
    go_wp2_with fail
    go_ret
    exact ⟨ret_bool (by rw [H.out]; simp; omega), rfl⟩
def awL : List X := [⟨1, 0, 0, 0, ⟨1, 2, []⟩⟩, ⟨1, 0, 0, 0, ⟨1, 3, []⟩⟩, ⟨3, 0, 1, 0, nul⟩, ⟨1, 0, 0, 0, nul⟩, ⟨6, 3, 3, 0, nul⟩, ⟨2, 0, 0, 4, nul⟩]
theorem aw_ok : OkX awL := by intro x hx; simp [awL, nul] at hx; rcases hx with rfl | rfl | rfl | rfl | rfl | rfl <;> (unfold okN; simp)
theorem aw_c2 (vl : Value) (w : World) (h : RdG w vl awL) : Calls Try.prog 13 #[vl, .int .i64 2, .slice none 0 0] w fun e w' => e = .returned (.tuple #[.int .i64 1, .int .i64 0]) ∧ Ext w w' := by
  have := check_prg awL 2 [] vl _ w h (rdG_nil w)
  rw [show chkV awL 2 [] = (1, 0) by decide] at this; exact this
theorem aw_c5 (vl : Value) (w : World) (h : RdG w vl awL) : Calls Try.prog 13 #[vl, .int .i64 5, .slice none 0 0] w fun e w' => e = .returned (.tuple #[.int .i64 0, .int .i64 10]) ∧ Ext w w' := by
  have := check_prg awL 5 [] vl _ w h (rdG_nil w)
  rw [show chkV awL 5 [] = (0, 10) by decide] at this; exact this
theorem aw_e2 (vl : Value) (w : World) (h : RdG w vl awL) : Calls Try.prog 15 #[vl, .int .i64 2, .slice none 0 0] w fun e w' => e = .returned (vv ⟨1, 5, []⟩) ∧ Ext w w' := by
  have := eval_prg awL 2 [] vl _ w h (rdG_nil w) (by decide) aw_ok (fun v hv => by cases hv)
  rw [show evlV awL 2 [] = ⟨1, 5, []⟩ by rfl] at this; exact this
theorem aw_e4 (vl : Value) (w : World) (h : RdG w vl awL) : Calls Try.prog 15 #[vl, .int .i64 4, .slice none 0 0] w fun e w' => e = .returned (vv ⟨3, 0, []⟩) ∧ Ext w w' := by
  have := eval_prg awL 4 [] vl _ w h (rdG_nil w) (by decide) aw_ok (fun v hv => by cases hv)
  rw [show evlV awL 4 [] = ⟨3, 0, []⟩ by rfl] at this; exact this
theorem aw_col (vl : Value) (w : World) (h : RdG w vl awL) : Calls Try.prog 18 #[vl, .int .i64 5] w fun e w' => ∃ g o cap, e = .returned (.slice (some ⟨g, o, none⟩) 1 cap) ∧ w'.cell? ⟨g, o, none⟩ = some (.int .i64 4) ∧ Ext w w' := by
  refine (col_prg awL 5 vl w h (by decide)).mono ?_
  rintro e w' ⟨v, cs, rfl, hr, hE, ha, hm⟩
  have hR : rea awL 5 = [false, false, false, false, false, true] := by decide
  obtain rfl : cs = [4] := by
    refine asc_unique _ _ ha (by simp [Asc]) fun c => (hm c).trans ?_
    show (isIx 5 (awL.length : Nat) = true ∧ Uses awL 5 c) ↔ c ∈ [(4 : Int)]
    constructor
    · rintro ⟨-, i, hi, hr, ho, hc⟩
      rw [hR] at hr
      have : i = 5 := by
        rcases (by omega : i = 0 ∨ i = 1 ∨ i = 2 ∨ i = 3 ∨ i = 4 ∨ i = 5) with rfl | rfl | rfl | rfl | rfl | rfl <;> first | rfl | (exact absurd hr (by decide))
      subst this
      rw [← hc]; simp [awL]
    · intro h
      obtain rfl : c = 4 := by simpa using h
      exact ⟨by decide, 5, by omega, by rw [hR]; rfl, rfl, rfl⟩
  obtain ⟨ad, cap, rfl, h1, h2⟩ := hr.shape
  obtain ⟨g, o, rfl, hc⟩ := rd_I hr 0 (by decide)
  exact ⟨g, o, cap, rfl, hc, hE⟩
set_option maxHeartbeats 4000000 in
set_option maxRecDepth 100000 in
theorem awake_law (w : World) : Calls Try.prog 12 #[] w fun e w' => e = .returned (.bool true) ∧ Ext w w' := by
  go_enter Try.func12, Try.ntmps12
  go_wp2_with fail
  refine (int_val 2 _).mono ?_; rintro e w1 ⟨rfl, hE1⟩
  go_wp2_with fail
  refine (int_val 3 _).mono ?_; rintro e w2 ⟨rfl, hE2⟩
  go_wp2_with fail
  have hE := hE1.trans hE2
  have hR : RdG (w2.alloc (.cells (cellsG awL).toArray 44)) (.slice (some ⟨w2.heap.size, 0, none⟩) 6 6) awL := rd_litG w2 awL _ _ _ _ rfl rfl (by decide) rfl
  have hE' := hE.trans ((Ext.refl w2).alloc (cellsG awL).toArray 44)
  have HR := Lib.hid hR
  have HE := Lib.hid hE'
  clear hR hE' hE hE1 hE2
  refine (aw_c2 _ _ HR.out).mono ?_; rintro e w3 ⟨rfl, hE3⟩
  have HR3 := Lib.hid (HR.out.ext hE3)
  have HE3 := Lib.hid (HE.out.trans hE3)
  clear hE3 HR HE
  go_wp2_with fail
  refine (aw_c5 _ _ HR3.out).mono ?_; rintro e w4 ⟨rfl, hE4⟩
  have HR4 := Lib.hid (HR3.out.ext hE4)
  have HE4 := Lib.hid (HE3.out.trans hE4)
  clear hE4 HR3 HE3
  go_wp2_with fail
  refine (aw_col _ _ HR4.out).mono ?_; rintro e w5 ⟨g, o, cap, rfl, hc, hE5⟩
  have HR5 := Lib.hid (HR4.out.ext hE5)
  have HE5 := Lib.hid (HE4.out.trans hE5)
  have HC5 := Lib.hid hc
  clear hE5 HR4 HE4 hc
  go_wp2_with fail
  refine (aw_e2 _ _ HR5.out).mono ?_; rintro e w6 ⟨rfl, hE6⟩
  have HR6 := Lib.hid (HR5.out.ext hE6)
  have HE6 := Lib.hid (HE5.out.trans hE6)
  have HC6 := Lib.hid (hE6.keeps HC5.out)
  clear hE6 HR5 HE5 HC5
  go_wp2_with fail
  refine (int_val 5 _).mono ?_; rintro e w7 ⟨rfl, hE7⟩
  have HR7 := Lib.hid (HR6.out.ext hE7)
  have HE7 := Lib.hid (HE6.out.trans hE7)
  have HC7 := Lib.hid (hE7.keeps HC6.out)
  clear hE7 HR6 HE6 HC6
  go_wp2_with fail
  refine (aw_e4 _ _ HR7.out).mono ?_; rintro e w8 ⟨rfl, hE8⟩
  have HE8 := Lib.hid (HE7.out.trans hE8)
  have hC8 := hE8.keeps HC7.out
  clear hE8 HR7 HE7 HC7
  go_wp2_with fail
  go_ret
  exact ⟨rfl, HE8.out⟩
end Go.Proofs.Ytdamlnfjhpmpmaa
