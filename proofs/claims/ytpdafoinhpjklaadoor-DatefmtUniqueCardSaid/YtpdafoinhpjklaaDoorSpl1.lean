/- Contracts of the library's CutPrefix, IndexByte and HasPrefix at lists that are taken apart, and of the program's splitPeriod. -/
import Derived.Test.YtpdafoinhpjklaaDoorPrs3
namespace Go.Proofs.YtpdafoinhpjklaaDoor
open Go.ChangeShapes Go.WideShapes Go.ChangeAt Go.RowKit

theorem idx_at (c : UInt8) (r : List UInt8) : ∀ f : List UInt8, c ∉ f → Lib.indexByte (f ++ c :: r) c = f.length
  | [], _ => by simp [Lib.indexByte]
  | x :: f, h => by
    have hx : (x == c) = false := by rw [beq_eq_false_iff_ne]; rintro rfl; exact h (List.mem_cons_self ..)
    have ih := idx_at c r f (fun m => h (List.mem_cons_of_mem _ m))
    simp only [List.cons_append, Lib.indexByte, hx, ih, List.length_cons]
    simp
    try omega
theorem idx_none (c : UInt8) : ∀ f : List UInt8, c ∉ f → Lib.indexByte f c = -1
  | [], _ => by simp [Lib.indexByte]
  | x :: f, h => by
    have hx : (x == c) = false := by rw [beq_eq_false_iff_ne]; rintro rfl; exact h (List.mem_cons_self ..)
    have ih := idx_none c f (fun m => h (List.mem_cons_of_mem _ m))
    simp only [Lib.indexByte, hx, ih]
    simp
theorem u8_of (c : UInt8) : ((c.toNat : Int)).toNat.toUInt8 = c := by simp
theorem cut_yes (l : List UInt8) (w : World) : Calls Tryd.prog 40 #[sv (91 :: l), sv [91]] w fun e w' => e = .returned (.tuple #[sv l, .bool true]) ∧ w = w' := by
  have := Tryd.strings_CutPrefix ⟨(91 :: l).toArray⟩ ⟨#[91]⟩ w
  rw [show Lib.hasPrefix (⟨(91 :: l).toArray⟩ : ByteArray).data.toList (⟨#[91]⟩ : ByteArray).data.toList = true by simp [Lib.hasPrefix],
    show Lib.trimPrefix (⟨(91 :: l).toArray⟩ : ByteArray).data.toList (⟨#[91]⟩ : ByteArray).data.toList = l by simp [Lib.trimPrefix, Lib.hasPrefix]] at this
  exact this.mono fun e w' ⟨a, b⟩ => ⟨a, b.symm⟩
theorem cut_no (l : List UInt8) (w : World) (h : ∀ t, l ≠ 91 :: t) : Calls Tryd.prog 40 #[sv l, sv [91]] w fun e w' => e = .returned (.tuple #[sv l, .bool false]) ∧ w = w' := by
  have := Tryd.strings_CutPrefix ⟨l.toArray⟩ ⟨#[91]⟩ w
  have hp : Lib.hasPrefix (⟨l.toArray⟩ : ByteArray).data.toList (⟨#[91]⟩ : ByteArray).data.toList = false := by
    cases l with
    | nil => simp [Lib.hasPrefix]
    | cons x t => simp [Lib.hasPrefix, List.isPrefixOf]; intro e; exact h t (by rw [← e])
  rw [Lib.trimPrefix, hp] at this
  simp only [Bool.false_eq_true, if_false] at this
  exact this.mono fun e w' ⟨a, b⟩ => ⟨a, b.symm⟩
theorem ixb_yes (f r : List UInt8) (c : UInt8) (w : World) (h : c ∉ f) : Calls Tryd.prog 41 #[sv (f ++ c :: r), .int .u8 (c.toNat : Int)] w fun e w' => e = .returned (.int .i64 (f.length : Int)) ∧ w = w' := by
  have := Tryd.strings_IndexByte ⟨(f ++ c :: r).toArray⟩ (c.toNat : Int) w
  rw [u8_of, show Lib.indexByte (⟨(f ++ c :: r).toArray⟩ : ByteArray).data.toList c = f.length by simpa using idx_at c r f h] at this
  exact this.mono fun e w' ⟨a, b⟩ => ⟨a, b.symm⟩
theorem ixb_no (f : List UInt8) (c : UInt8) (w : World) (h : c ∉ f) : Calls Tryd.prog 41 #[sv f, .int .u8 (c.toNat : Int)] w fun e w' => e = .returned (.int .i64 (-1)) ∧ w = w' := by
  have := Tryd.strings_IndexByte ⟨f.toArray⟩ (c.toNat : Int) w
  rw [u8_of, show Lib.indexByte (⟨f.toArray⟩ : ByteArray).data.toList c = -1 by simpa using idx_none c f h] at this
  exact this.mono fun e w' ⟨a, b⟩ => ⟨a, b.symm⟩
theorem has_yes (r : List UInt8) (w : World) : Calls Tryd.prog 42 #[sv (44 :: 32 :: r), sv [44, 32]] w fun e w' => e = .returned (.bool true) ∧ w = w' := by
  have := Tryd.strings_HasPrefix ⟨(44 :: 32 :: r).toArray⟩ ⟨#[44, 32]⟩ w
  rw [show Lib.hasPrefix (⟨(44 :: 32 :: r).toArray⟩ : ByteArray).data.toList (⟨#[44, 32]⟩ : ByteArray).data.toList = true by simp [Lib.hasPrefix]] at this
  exact this.mono fun e w' ⟨a, b⟩ => ⟨a, b.symm⟩
theorem has_no (r : List UInt8) (w : World) (h : ∀ t, r ≠ 32 :: t) : Calls Tryd.prog 42 #[sv (44 :: r), sv [44, 32]] w fun e w' => e = .returned (.bool false) ∧ w = w' := by
  have := Tryd.strings_HasPrefix ⟨(44 :: r).toArray⟩ ⟨#[44, 32]⟩ w
  have hp : Lib.hasPrefix (⟨(44 :: r).toArray⟩ : ByteArray).data.toList (⟨#[44, 32]⟩ : ByteArray).data.toList = false := by
    cases r with
    | nil => simp [Lib.hasPrefix]
    | cons x t => simp [Lib.hasPrefix, List.isPrefixOf]; intro e; exact h t (by rw [← e])
  rw [hp] at this
  exact this.mono fun e w' ⟨a, b⟩ => ⟨a, b.symm⟩

set_option maxHeartbeats 400000 in
theorem split_a (l : List UInt8) (w : World) (h : ∀ t, l ≠ 91 :: t) : Calls Tryd.prog 28 #[sv l] w fun e w' => e = .returned (.tuple #[sv [], sv [], .bool false]) ∧ w = w' := by
  have H := Lib.hid h
  clear h
  go_enter Tryd.func28, Tryd.ntmps28
  go_wp2_with fail
  refine (cut_no l w H.out).mono ?_; rintro e' w1 ⟨rfl, rfl⟩
  go_wp2_with fail
  go_ret3
  exact ⟨rfl, rfl⟩
set_option maxHeartbeats 400000 in
theorem split_b (l : List UInt8) (w : World) (h : (44 : UInt8) ∉ l) : Calls Tryd.prog 28 #[sv (91 :: l)] w fun e w' => e = .returned (.tuple #[sv [], sv [], .bool false]) ∧ w = w' := by
  have H := Lib.hid h
  clear h
  go_enter Tryd.func28, Tryd.ntmps28
  go_wp2_with fail
  refine (cut_yes l w).mono ?_; rintro e' w1 ⟨rfl, rfl⟩
  go_wp2_with fail
  refine (ixb_no l 44 w H.out).mono ?_; rintro e' w1 ⟨rfl, rfl⟩
  go_wp2_with fail
  go_ret3
  exact ⟨rfl, rfl⟩
theorem ex_drop (f r : List UInt8) (y : Nat) (hy : y = f.length + r.length) : ({ data := (f ++ r).toArray } : ByteArray).extract f.length y = ⟨r.toArray⟩ := by
  rw [ext_piece]; simp [hy]
theorem ex_take (f r : List UInt8) : ({ data := (f ++ r).toArray } : ByteArray).extract 0 f.length = ⟨f.toArray⟩ := by
  rw [ext_piece]; simp
set_option maxHeartbeats 400000 in
theorem split_c (f r : List UInt8) (w : World) (h : (44 : UInt8) ∉ f) (h2 : ∀ t, r ≠ 32 :: t) : Calls Tryd.prog 28 #[sv (91 :: (f ++ 44 :: r))] w fun e w' => e = .returned (.tuple #[sv [], sv [], .bool false]) ∧ w = w' := by
  have H := Lib.hid h
  have H2 := Lib.hid h2
  have ex := ex_drop f (44 :: r) (f.length + (r.length + 1)) rfl
  clear h h2
  go_enter Tryd.func28, Tryd.ntmps28
  go_wp2_with fail
  refine (cut_yes _ w).mono ?_; rintro e' w1 ⟨rfl, rfl⟩
  go_wp2_with fail
  refine (ixb_yes f r 44 w H.out).mono ?_; rintro e' w1 ⟨rfl, rfl⟩
  go_wp2_with fail
  refine (has_no r w H2.out).mono ?_; rintro e' w1 ⟨rfl, rfl⟩
  go_wp2_with fail
  go_ret3
  exact ⟨rfl, rfl⟩
set_option maxHeartbeats 400000 in
theorem split_d (f r : List UInt8) (w : World) (hl : f.length + (r.length + 1 + 1) ≤ 9223372036854775806) (h : (44 : UInt8) ∉ f) (h2 : (41 : UInt8) ∉ r) : Calls Tryd.prog 28 #[sv (91 :: (f ++ 44 :: 32 :: r))] w fun e w' => e = .returned (.tuple #[sv [], sv [], .bool false]) ∧ w = w' := by
  have H := Lib.hid h
  have H2 := Lib.hid h2
  have ex := ex_drop f (44 :: 32 :: r) (f.length + (r.length + 1 + 1)) rfl
  have ey : ({ data := (f ++ 44 :: 32 :: r).toArray } : ByteArray).extract (f.length + 2) (f.length + (r.length + 1 + 1)) = ⟨r.toArray⟩ := by
    have := ex_drop (f ++ [44, 32]) r (f.length + (r.length + 1 + 1)) (by simp; omega)
    simpa using this
  clear h h2
  go_enter Tryd.func28, Tryd.ntmps28
  go_wp2_with fail
  refine (cut_yes _ w).mono ?_; rintro e' w1 ⟨rfl, rfl⟩
  go_wp2_with fail
  refine (ixb_yes f _ 44 w H.out).mono ?_; rintro e' w1 ⟨rfl, rfl⟩
  go_wp2_with fail
  refine (has_yes r w).mono ?_; rintro e' w1 ⟨rfl, rfl⟩
  go_wp2_with fail
  refine (ixb_no r 41 w H2.out).mono ?_; rintro e' w1 ⟨rfl, rfl⟩
  go_wp2_with fail
  go_ret3
  exact ⟨rfl, rfl⟩
set_option maxHeartbeats 400000 in
theorem split_e (f g t : List UInt8) (w : World) (hl : f.length + (g.length + (t.length + 1) + 1 + 1) ≤ 9223372036854775806) (h : (44 : UInt8) ∉ f) (h2 : (41 : UInt8) ∉ g) (ht : 0 < t.length) : Calls Tryd.prog 28 #[sv (91 :: (f ++ 44 :: 32 :: (g ++ 41 :: t)))] w fun e w' => e = .returned (.tuple #[sv [], sv [], .bool false]) ∧ w = w' := by
  have H := Lib.hid h
  have H2 := Lib.hid h2
  have ex := ex_drop f (44 :: 32 :: (g ++ 41 :: t)) (f.length + (g.length + (t.length + 1) + 1 + 1)) (by simp)
  have ey : ({ data := (f ++ 44 :: 32 :: (g ++ 41 :: t)).toArray } : ByteArray).extract (f.length + 2) (f.length + (g.length + (t.length + 1) + 1 + 1)) = ⟨(g ++ 41 :: t).toArray⟩ := by
    have := ex_drop (f ++ [44, 32]) (g ++ 41 :: t) (f.length + (g.length + (t.length + 1) + 1 + 1)) (by simp; omega)
    simpa using this
  have nq : ((g.length : Int) != (g.length : Int) + ((t.length : Int) + 1) - 1) = true := by rw [bne_iff_ne]; omega
  clear h h2 ht
  go_enter Tryd.func28, Tryd.ntmps28
  go_wp2_with fail
  refine (cut_yes _ w).mono ?_; rintro e' w1 ⟨rfl, rfl⟩
  go_wp2_with fail
  refine (ixb_yes f _ 44 w H.out).mono ?_; rintro e' w1 ⟨rfl, rfl⟩
  go_wp2_with fail
  refine (has_yes _ w).mono ?_; rintro e' w1 ⟨rfl, rfl⟩
  go_wp2_with fail
  refine (ixb_yes g t 41 w H2.out).mono ?_; rintro e' w1 ⟨rfl, rfl⟩
  go_wp2_with fail
  go_ret3
  exact ⟨rfl, rfl⟩
set_option maxHeartbeats 400000 in
theorem split_f (f g : List UInt8) (w : World) (hl : f.length + (g.length + 1 + 1 + 1) ≤ 9223372036854775806) (h : (44 : UInt8) ∉ f) (h2 : (41 : UInt8) ∉ g) : Calls Tryd.prog 28 #[sv (91 :: (f ++ 44 :: 32 :: (g ++ [41])))] w fun e w' => e = .returned (.tuple #[sv f, sv g, .bool true]) ∧ Ext w w' := by
  have H := Lib.hid h
  have H2 := Lib.hid h2
  have ex := ex_drop f (44 :: 32 :: (g ++ [41])) (f.length + (g.length + 1 + 1 + 1)) (by simp)
  have ey : ({ data := (f ++ 44 :: 32 :: (g ++ [41])).toArray } : ByteArray).extract (f.length + 2) (f.length + (g.length + 1 + 1 + 1)) = ⟨(g ++ [41]).toArray⟩ := by
    have := ex_drop (f ++ [44, 32]) (g ++ [41]) (f.length + (g.length + 1 + 1 + 1)) (by simp; omega)
    simpa using this
  have e1 := ex_take f (44 :: 32 :: (g ++ [41]))
  have e2 := ex_take g [41]
  clear h h2
  go_enter Tryd.func28, Tryd.ntmps28
  go_wp2_with fail
  refine (cut_yes _ w).mono ?_; rintro e' w1 ⟨rfl, rfl⟩
  go_wp2_with fail
  refine (ixb_yes f _ 44 w H.out).mono ?_; rintro e' w1 ⟨rfl, rfl⟩
  go_wp2_with fail
  refine (has_yes _ w).mono ?_; rintro e' w1 ⟨rfl, rfl⟩
  go_wp2_with fail
  refine (ixb_yes g [] 41 w H2.out).mono ?_; rintro e' w1 ⟨rfl, rfl⟩
  go_wp2_with fail
  go_region
  go_wp2_with fail
  go_ret3
  exact ⟨rfl, (Ext.refl _).drew⟩
/-- a text that is no period's, by its first comma and its first closing bracket -/
def noPer (l : List UInt8) : Prop :=
  (∀ t, l ≠ 91 :: t) ∨
  (∃ t, l = 91 :: t ∧ (44 : UInt8) ∉ t) ∨
  (∃ f r, l = 91 :: (f ++ 44 :: r) ∧ (44 : UInt8) ∉ f ∧ ∀ t, r ≠ 32 :: t) ∨
  (∃ f r, l = 91 :: (f ++ 44 :: 32 :: r) ∧ (44 : UInt8) ∉ f ∧ (41 : UInt8) ∉ r) ∨
  (∃ f g t, l = 91 :: (f ++ 44 :: 32 :: (g ++ 41 :: t)) ∧ (44 : UInt8) ∉ f ∧ (41 : UInt8) ∉ g ∧ 0 < t.length)
/-- a period's text -/
def isPer (l f g : List UInt8) : Prop := l = 91 :: (f ++ 44 :: 32 :: (g ++ [41])) ∧ (44 : UInt8) ∉ f ∧ (41 : UInt8) ∉ g
theorem first_of (c : UInt8) : ∀ l : List UInt8, c ∈ l → ∃ f r, l = f ++ c :: r ∧ c ∉ f
  | [], h => by cases h
  | x :: l, h => by
    by_cases e : x = c
    · exact ⟨[], l, by rw [e]; rfl, by simp⟩
    · have hm : c ∈ l := by rcases List.mem_cons.1 h with h | h; exact absurd h.symm e; exact h
      obtain ⟨f, r, h1, h2⟩ := first_of c l hm
      exact ⟨x :: f, r, by rw [h1]; rfl, by simp only [List.mem_cons, not_or]; exact ⟨fun h => e h.symm, h2⟩⟩
theorem kind_of (l : List UInt8) : noPer l ∨ ∃ f g, isPer l f g := by
  by_cases h : ∃ t, l = 91 :: t
  · obtain ⟨t, rfl⟩ := h
    by_cases h1 : (44 : UInt8) ∈ t
    · obtain ⟨f, r, rfl, hf⟩ := first_of _ _ h1
      by_cases h2 : ∃ u, r = 32 :: u
      · obtain ⟨u, rfl⟩ := h2
        by_cases h3 : (41 : UInt8) ∈ u
        · obtain ⟨g, v, rfl, hg⟩ := first_of _ _ h3
          cases v with
          | nil => exact Or.inr ⟨f, g, rfl, hf, hg⟩
          | cons x v => exact Or.inl (Or.inr (Or.inr (Or.inr (Or.inr ⟨f, g, x :: v, rfl, hf, hg, by simp⟩))))
        · exact Or.inl (Or.inr (Or.inr (Or.inr (Or.inl ⟨f, u, rfl, hf, h3⟩))))
      · exact Or.inl (Or.inr (Or.inr (Or.inl ⟨f, r, rfl, hf, fun u e => h2 ⟨u, e⟩⟩)))
    · exact Or.inl (Or.inr (Or.inl ⟨t, rfl, h1⟩))
  · exact Or.inl (Or.inl (fun t e => h ⟨t, e⟩))
theorem per_splits {l f g : List UInt8} (h : isPer l f g) : Cal.Splits l f g := by
  obtain ⟨h1, h2, h3⟩ := h
  exact ⟨by rw [h1]; simp, h2, h3⟩
theorem splits_per {l f g : List UInt8} (h : Cal.Splits l f g) : isPer l f g := by
  obtain ⟨h1, h2, h3⟩ := h
  exact ⟨by rw [h1]; simp, h2, h3⟩
theorem split_bad (l : List UInt8) (w : World) (hl : l.length ≤ maxLen) (h : noPer l) : Calls Tryd.prog 28 #[sv l] w fun e w' => e = .returned (.tuple #[sv [], sv [], .bool false]) ∧ Ext w w' := by
  have up : ∀ {l' : List UInt8}, (Calls Tryd.prog 28 #[sv l'] w fun e w' => e = .returned (.tuple #[sv [], sv [], .bool false]) ∧ w = w') → Calls Tryd.prog 28 #[sv l'] w fun e w' => e = .returned (.tuple #[sv [], sv [], .bool false]) ∧ Ext w w' :=
    fun h => h.mono fun _ _ ⟨a, b⟩ => ⟨a, b ▸ Ext.refl _⟩
  rcases h with h | ⟨t, rfl, h⟩ | ⟨f, r, rfl, h1, h2⟩ | ⟨f, r, rfl, h1, h2⟩ | ⟨f, g, t, rfl, h1, h2, h3⟩
  · exact up (split_a l w h)
  · exact up (split_b t w h)
  · exact up (split_c f r w h1 h2)
  · exact up (split_d f r w (by simp [maxLen] at hl; omega) h1 h2)
  · exact up (split_e f g t w (by simp [maxLen] at hl; omega) h1 h2 h3)
theorem split_ok (l f g : List UInt8) (w : World) (hl : l.length ≤ maxLen) (h : isPer l f g) : Calls Tryd.prog 28 #[sv l] w fun e w' => e = .returned (.tuple #[sv f, sv g, .bool true]) ∧ Ext w w' := by
  obtain ⟨rfl, h1, h2⟩ := h
  exact split_f f g w (by simp [maxLen] at hl; omega) h1 h2
end Go.Proofs.YtpdafoinhpjklaaDoor
