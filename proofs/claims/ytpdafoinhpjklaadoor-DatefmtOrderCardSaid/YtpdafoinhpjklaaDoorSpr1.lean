/- Contracts of the reference's has and ParsePeriod. -/
import Derived.Test.YtpdafoinhpjklaaDoorPrf2
import Derived.Test.YtpdafoinhpjklaaDoorSpl2
namespace Go.Proofs.YtpdafoinhpjklaaDoor
open Go.ChangeShapes Go.WideShapes Go.ChangeAt Go.RowKit

set_option maxHeartbeats 400000 in
theorem has_ref_no (l : List UInt8) (w : World) (hl : l.length ≤ maxLen) (h : (41 : UInt8) ∉ l) :
    Calls Tryd.prog 29 #[sv l, .int .u8 41] w fun e w' => e = .returned (.bool false) ∧ w = w' := by
  unfold maxLen at hl
  have H := Lib.hid h
  clear h
  go_enter Tryd.func29, Tryd.ntmps29
  go_wp2
  go_loop [5] (fun i => ∃ k : Nat, k ≤ l.length ∧ i = .int .i64 k) (fun i => l.length - (intOf i).toNat)
  case atStart => exact ⟨0, Nat.zero_le _, rfl⟩
  case round =>
    obtain ⟨k, hk, rfl⟩ := hrel
    by_cases hlt : k < l.length
    · have hn : (((({ data := l.toArray } : ByteArray)[k]'(by simpa [ByteArray.size] using hlt)).toNat : Int) == 41) = false := by
        rw [beq_eq_false_iff_ne]
        intro e
        apply H.out
        have : l[k] = 41 := UInt8.toNat_inj.1 (by have e' : (l[k].toNat : Int) = 41 := e; show l[k].toNat = 41; omega)
        rw [← this]; exact List.getElem_mem _
      go_wp2
      go_round
      case rel => exact ⟨k + 1, by omega, by go_num⟩
      case measure => simp [intOf]; omega
    · go_wp2
      go_ret
      exact ⟨rfl, rfl⟩
set_option maxHeartbeats 400000 in
theorem has_ref_yes (g t : List UInt8) (w : World) (hl : g.length + (t.length + 1) ≤ maxLen) (h : (41 : UInt8) ∉ g) :
    Calls Tryd.prog 29 #[sv (g ++ 41 :: t), .int .u8 41] w fun e w' => e = .returned (.bool true) ∧ w = w' := by
  unfold maxLen at hl
  have H := Lib.hid h
  clear h
  go_enter Tryd.func29, Tryd.ntmps29
  go_wp2
  go_loop [5] (fun i => ∃ k : Nat, k ≤ g.length ∧ i = .int .i64 k) (fun i => g.length - (intOf i).toNat)
  case atStart => exact ⟨0, Nat.zero_le _, rfl⟩
  case round =>
    obtain ⟨k, hk, rfl⟩ := hrel
    have hs : (k : Int) < (g.length : Int) + ((t.length : Int) + 1) := by omega
    by_cases hlt : k < g.length
    · have hn : (((({ data := (g ++ 41 :: t).toArray } : ByteArray)[k]'(by simp [ByteArray.size]; omega)).toNat : Int) == 41) = false := by
        rw [beq_eq_false_iff_ne]
        intro e
        apply H.out
        have e0 : (g ++ 41 :: t)[k]'(by simp; omega) = g[k] := List.getElem_append_left hlt
        have : g[k] = 41 := UInt8.toNat_inj.1 (by have e' : (((g ++ 41 :: t)[k]'(by simp; omega)).toNat : Int) = 41 := e; rw [e0] at e'; show g[k].toNat = 41; omega)
        rw [← this]; exact List.getElem_mem _
      go_wp2
      go_round
      case rel => exact ⟨k + 1, by omega, by go_num⟩
      case measure => simp [intOf]; omega
    · obtain rfl : k = g.length := by omega
      have hn : (((({ data := (g ++ 41 :: t).toArray } : ByteArray)[g.length]'(by simp [ByteArray.size])).toNat : Int) == 41) = true := by
        rw [beq_iff_eq]
        show (((g ++ 41 :: t)[g.length]'(by simp)).toNat : Int) = 41
        rw [List.getElem_append_right (Nat.le_refl _)]; simp
      go_wp2
      go_ret
      exact ⟨rfl, rfl⟩
set_option maxHeartbeats 1000000 in
theorem pper_ref_r1 (l : List UInt8) (w : World) (h : l.length < 4) :
    Calls Tryd.prog 17 #[sv l] w fun e w' => e = .returned (.tuple #[pv 0 0, .int .i64 5]) ∧ Ext w w' := by
  have hW : Ext w (w.alloc (.cells #[.int .i64 0, .int .i64 0] 23)) := (Ext.refl _).alloc _ _
  go_enter Tryd.func17, Tryd.ntmps17
  go_wp2_with fail
  exact bodyPost_ret (v := .tuple #[pv 0 0, .int .i64 5]) (by simp [results, Tryd.results17, go_sem]) rfl ⟨rfl, hW⟩
set_option maxHeartbeats 1000000 in
theorem pper_ref_r2 (x : UInt8) (l : List UInt8) (w : World) (hl : l.length + 1 ≤ maxLen) (h : 3 ≤ l.length) (hx : x ≠ 91) :
    Calls Tryd.prog 17 #[sv (x :: l)] w fun e w' => e = .returned (.tuple #[pv 0 0, .int .i64 5]) ∧ Ext w w' := by
  unfold maxLen at hl
  have hW : Ext w (w.alloc (.cells #[.int .i64 0, .int .i64 0] 23)) := (Ext.refl _).alloc _ _
  have i0 : ∀ h, ({ data := (x :: l).toArray } : ByteArray)[0]'h = x := fun _ => rfl
  have hn : ((x.toNat : Int) != 91) = true := by
    rw [bne_iff_ne]; intro e; apply hx; apply UInt8.toNat_inj.1; show x.toNat = 91; omega
  have hm : ((x.toNat : Int) == 91) = false := by
    rw [beq_eq_false_iff_ne]; intro e; apply hx; apply UInt8.toNat_inj.1; show x.toNat = 91; omega
  have h4 : ¬ l.length + 1 < 4 := by omega
  clear hx
  go_enter Tryd.func17, Tryd.ntmps17
  go_wp2_with fail
  exact bodyPost_ret (v := .tuple #[pv 0 0, .int .i64 5]) (by simp [results, Tryd.results17, go_sem]) rfl ⟨rfl, hW⟩
set_option maxHeartbeats 1000000 in
theorem pper_ref_r3 (m : List UInt8) (y : UInt8) (w : World) (hl : m.length + 1 + 1 ≤ maxLen) (h : 2 ≤ m.length) (hy : y ≠ 41) :
    Calls Tryd.prog 17 #[sv (91 :: (m ++ [y]))] w fun e w' => e = .returned (.tuple #[pv 0 0, .int .i64 5]) ∧ Ext w w' := by
  unfold maxLen at hl
  have hW : Ext w (w.alloc (.cells #[.int .i64 0, .int .i64 0] 23)) := (Ext.refl _).alloc _ _
  have i0 : ∀ h, ({ data := (91 :: (m ++ [y])).toArray } : ByteArray)[0]'h = 91 := fun _ => rfl
  have iL : ∀ h, ({ data := (91 :: (m ++ [y])).toArray } : ByteArray)[m.length + 1]'h = y := fun h => by
    show (91 :: (m ++ [y]))[m.length + 1]'(by simp) = y
    simp
  have hn : ((y.toNat : Int) != 41) = true := by
    rw [bne_iff_ne]; intro e; apply hy; apply UInt8.toNat_inj.1; show y.toNat = 41; omega
  have hm : ((y.toNat : Int) == 41) = false := by
    rw [beq_eq_false_iff_ne]; intro e; apply hy; apply UInt8.toNat_inj.1; show y.toNat = 41; omega
  have d4 : decide ((m.length : Int) + 1 + 1 < 4) = false := by simp; omega
  clear hy
  go_enter Tryd.func17, Tryd.ntmps17
  go_wp2_with fail
  exact bodyPost_ret (v := .tuple #[pv 0 0, .int .i64 5]) (by simp [results, Tryd.results17, go_sem]) rfl ⟨rfl, hW⟩
end Go.Proofs.YtpdafoinhpjklaaDoor
