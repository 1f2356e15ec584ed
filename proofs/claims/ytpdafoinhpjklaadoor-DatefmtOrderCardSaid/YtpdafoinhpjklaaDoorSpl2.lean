/- The contract of the program's ParsePeriod. -/
import Derived.Test.YtpdafoinhpjklaaDoorSpl1
namespace Go.Proofs.YtpdafoinhpjklaaDoor
open Go.ChangeShapes Go.WideShapes Go.ChangeAt Go.RowKit

theorem pp_e1 {f g : List UInt8} (h : Cal.pdE f ≠ 0) : Cal.ppE f g = Cal.pdE f ∧ Cal.ppA f g = 0 ∧ Cal.ppB f g = 0 := by
  have e : Cal.ppE f g = Cal.pdE f := by unfold Cal.ppE; rw [if_pos h]
  unfold Cal.ppA Cal.ppB; rw [e, if_neg h, if_neg h]; exact ⟨rfl, rfl, rfl⟩
theorem pp_e2 {f g : List UInt8} (h : Cal.pdE f = 0) (h2 : Cal.pdE g ≠ 0) : Cal.ppE f g = Cal.pdE g ∧ Cal.ppA f g = 0 ∧ Cal.ppB f g = 0 := by
  have e : Cal.ppE f g = Cal.pdE g := by unfold Cal.ppE; rw [if_neg (by omega), if_pos h2]
  unfold Cal.ppA Cal.ppB; rw [e, if_neg h2, if_neg h2]; exact ⟨rfl, rfl, rfl⟩
theorem pp_e3 {f g : List UInt8} (h : Cal.pdE f = 0) (h2 : Cal.pdE g = 0) (h3 : Cal.pdV g ≤ Cal.pdV f) : Cal.ppE f g = 10 ∧ Cal.ppA f g = 0 ∧ Cal.ppB f g = 0 := by
  have e : Cal.ppE f g = 10 := by unfold Cal.ppE; rw [if_neg (by omega), if_neg (by omega), if_pos h3]
  unfold Cal.ppA Cal.ppB; rw [e, if_neg (by omega), if_neg (by omega)]; exact ⟨rfl, rfl, rfl⟩
theorem pp_e4 {f g : List UInt8} (h : Cal.pdE f = 0) (h2 : Cal.pdE g = 0) (h3 : ¬ Cal.pdV g ≤ Cal.pdV f) : Cal.ppE f g = 0 ∧ Cal.ppA f g = Cal.pdV f ∧ Cal.ppB f g = Cal.pdV g := by
  have e : Cal.ppE f g = 0 := by unfold Cal.ppE; rw [if_neg (by omega), if_neg (by omega), if_neg h3]
  unfold Cal.ppA Cal.ppB; rw [e, if_pos rfl, if_pos rfl]; exact ⟨rfl, rfl, rfl⟩
theorem ret_pe {a b c a' b' c' : Int} (h1 : a = a') (h2 : b = b') (h3 : c = c') : Ending.returned (.tuple #[pv a b, .int .i64 c]) = .returned (.tuple #[pv a' b', .int .i64 c']) := by rw [h1, h2, h3]
/-- the block of a result that the call has made, behind calls that leave what was there -/
theorem res_of {w w1 : World} {a b : Value} {t : TypeId} (hE : Ext (w.alloc (.cells #[a, b] t)) w1) :
    w1.cell? ⟨w.heap.size, 0, none⟩ = some a ∧ w1.cell? ⟨w.heap.size, 1, none⟩ = some b ∧ (∀ o, w1.frozen? ⟨w.heap.size, o, none⟩ = false) ∧ w.heap.size < w1.heap.size ∧ Ext w w1 :=
  ⟨hE.keeps (al0 _ _ _ _), hE.keeps (al1 _ _ _ _), fun o => by rw [hE.2.1 _ (by simp)]; exact (((Grown.refl w).alloc _ _).2.1 _).trans (frozen_new _ _ _ (by omega)), by have := hE.2.2; simp at this; omega, ((Ext.refl _).alloc _ _).trans hE⟩

set_option maxHeartbeats 1000000 in
theorem pper_prog_bad (l : List UInt8) (w : World) (hl : l.length ≤ maxLen) (h : noPer l) :
    Calls Tryd.prog 16 #[sv l] w fun e w' => e = .returned (.tuple #[pv 0 0, .int .i64 5]) ∧ Ext w w' := by
  have H := Lib.hid h
  clear h
  go_enter Tryd.func16, Tryd.ntmps16
  go_wp2_with fail
  refine (split_bad l _ hl H.out).mono ?_; rintro e w1 ⟨rfl, hE⟩
  obtain ⟨k0, k1, kf, hz, hW⟩ := res_of hE
  go_wp2_with fail
  exact bodyPost_ret (v := .tuple #[pv 0 0, .int .i64 5]) (by simp [results, Tryd.results16, go_sem, k0, k1]) rfl ⟨rfl, (hW.setNew _ _ (Nat.le_refl _) _).setNew _ _ (Nat.le_refl _) _⟩
set_option maxHeartbeats 1000000 in
theorem pper_prog_e1 (l f g : List UInt8) (w : World) (hl : l.length ≤ maxLen) (h : isPer l f g) (h1 : Cal.pdE f ≠ 0) :
    Calls Tryd.prog 16 #[sv l] w fun e w' => e = .returned (.tuple #[pv 0 0, .int .i64 (Cal.pdE f)]) ∧ Ext w w' := by
  have H := Lib.hid h
  have q1 : (Cal.pdE f != 0) = true := bne_iff_ne.2 h1
  clear h h1
  go_enter Tryd.func16, Tryd.ntmps16
  go_wp2_with fail
  refine (split_ok l f g _ hl H.out).mono ?_; rintro e w1 ⟨rfl, hE⟩
  go_wp2_with fail
  refine (pday_prog f _).mono ?_; rintro e w2 ⟨rfl, hE2⟩
  obtain ⟨k0, k1, kf, hz, hW⟩ := res_of (hE.trans hE2)
  go_wp2_with fail
  exact bodyPost_ret (v := .tuple #[pv 0 0, .int .i64 (Cal.pdE f)]) (by simp [results, Tryd.results16, go_sem, k0, k1]) rfl ⟨rfl, (hW.setNew _ _ (Nat.le_refl _) _).setNew _ _ (Nat.le_refl _) _⟩
set_option maxHeartbeats 1000000 in
theorem pper_prog_e2 (l f g : List UInt8) (w : World) (hl : l.length ≤ maxLen) (h : isPer l f g) (h1 : Cal.pdE f = 0) (h2 : Cal.pdE g ≠ 0) :
    Calls Tryd.prog 16 #[sv l] w fun e w' => e = .returned (.tuple #[pv 0 0, .int .i64 (Cal.pdE g)]) ∧ Ext w w' := by
  have H := Lib.hid h
  have q1 : (Cal.pdE f != 0) = false := by rw [h1]; rfl
  have q2 : (Cal.pdE g != 0) = true := bne_iff_ne.2 h2
  clear h h1 h2
  go_enter Tryd.func16, Tryd.ntmps16
  go_wp2_with fail
  refine (split_ok l f g _ hl H.out).mono ?_; rintro e w1 ⟨rfl, hE⟩
  go_wp2_with fail
  refine (pday_prog f _).mono ?_; rintro e w2 ⟨rfl, hE2⟩
  go_wp2_with fail
  refine (pday_prog g _).mono ?_; rintro e w3 ⟨rfl, hE3⟩
  obtain ⟨k0, k1, kf, hz, hW⟩ := res_of ((hE.trans hE2).trans hE3)
  go_wp2_with fail
  exact bodyPost_ret (v := .tuple #[pv 0 0, .int .i64 (Cal.pdE g)]) (by simp [results, Tryd.results16, go_sem, k0, k1]) rfl ⟨rfl, (hW.setNew _ _ (Nat.le_refl _) _).setNew _ _ (Nat.le_refl _) _⟩
set_option maxHeartbeats 1000000 in
theorem pper_prog_e3 (l f g : List UInt8) (w : World) (hl : l.length ≤ maxLen) (h : isPer l f g) (h1 : Cal.pdE f = 0) (h2 : Cal.pdE g = 0) (h3 : Cal.pdV g ≤ Cal.pdV f) :
    Calls Tryd.prog 16 #[sv l] w fun e w' => e = .returned (.tuple #[pv 0 0, .int .i64 10]) ∧ Ext w w' := by
  have H := Lib.hid h
  have q1 : (Cal.pdE f != 0) = false := by rw [h1]; rfl
  have q2 : (Cal.pdE g != 0) = false := by rw [h2]; rfl
  clear h h1 h2
  go_enter Tryd.func16, Tryd.ntmps16
  go_wp2_with fail
  refine (split_ok l f g _ hl H.out).mono ?_; rintro e w1 ⟨rfl, hE⟩
  go_wp2_with fail
  refine (pday_prog f _).mono ?_; rintro e w2 ⟨rfl, hE2⟩
  go_wp2_with fail
  refine (pday_prog g _).mono ?_; rintro e w3 ⟨rfl, hE3⟩
  obtain ⟨k0, k1, kf, hz, hW⟩ := res_of ((hE.trans hE2).trans hE3)
  go_wp2_with fail
  exact bodyPost_ret (v := .tuple #[pv 0 0, .int .i64 10]) (by simp [results, Tryd.results16, go_sem, k0, k1]) rfl ⟨rfl, (hW.setNew _ _ (Nat.le_refl _) _).setNew _ _ (Nat.le_refl _) _⟩
set_option maxHeartbeats 1000000 in
theorem pper_prog_e4 (l f g : List UInt8) (w : World) (hl : l.length ≤ maxLen) (h : isPer l f g) (h1 : Cal.pdE f = 0) (h2 : Cal.pdE g = 0) (h3 : ¬ Cal.pdV g ≤ Cal.pdV f) :
    Calls Tryd.prog 16 #[sv l] w fun e w' => e = .returned (.tuple #[pv (Cal.pdV f) (Cal.pdV g), .int .i64 0]) ∧ Ext w w' := by
  have H := Lib.hid h
  have q1 : (Cal.pdE f != 0) = false := by rw [h1]; rfl
  have q2 : (Cal.pdE g != 0) = false := by rw [h2]; rfl
  clear h h1 h2
  go_enter Tryd.func16, Tryd.ntmps16
  go_wp2_with fail
  refine (split_ok l f g _ hl H.out).mono ?_; rintro e w1 ⟨rfl, hE⟩
  go_wp2_with fail
  refine (pday_prog f _).mono ?_; rintro e w2 ⟨rfl, hE2⟩
  go_wp2_with fail
  refine (pday_prog g _).mono ?_; rintro e w3 ⟨rfl, hE3⟩
  obtain ⟨k0, k1, kf, hz, hW⟩ := res_of ((hE.trans hE2).trans hE3)
  go_wp2_with fail
  exact bodyPost_ret (v := .tuple #[pv (Cal.pdV f) (Cal.pdV g), .int .i64 0]) (by simp [results, Tryd.results16, go_sem, k0, k1]) rfl ⟨rfl, (hW.setNew _ _ (Nat.le_refl _) _).setNew _ _ (Nat.le_refl _) _⟩
theorem pper_prog (l f g : List UInt8) (w : World) (hl : l.length ≤ maxLen) (h : isPer l f g) :
    Calls Tryd.prog 16 #[sv l] w fun e w' => e = .returned (.tuple #[pv (Cal.ppA f g) (Cal.ppB f g), .int .i64 (Cal.ppE f g)]) ∧ Ext w w' := by
  by_cases h1 : Cal.pdE f = 0
  · by_cases h2 : Cal.pdE g = 0
    · by_cases h3 : Cal.pdV g ≤ Cal.pdV f
      · obtain ⟨a, b, c⟩ := pp_e3 h1 h2 h3; rw [a, b, c]; exact pper_prog_e3 l f g w hl h h1 h2 h3
      · obtain ⟨a, b, c⟩ := pp_e4 h1 h2 h3; rw [a, b, c]; exact pper_prog_e4 l f g w hl h h1 h2 h3
    · obtain ⟨a, b, c⟩ := pp_e2 h1 h2; rw [a, b, c]; exact pper_prog_e2 l f g w hl h h1 h2
  · obtain ⟨a, b, c⟩ := pp_e1 (g := g) h1; rw [a, b, c]; exact pper_prog_e1 l f g w hl h h1
end Go.Proofs.YtpdafoinhpjklaaDoor
