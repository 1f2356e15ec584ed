/- The contract of the reference's ParseDay, at every string. -/
import Derived.Test.YtpdafoinhpjklaaDoorPrf1
namespace Go.Proofs.YtpdafoinhpjklaaDoor
open Go.ChangeShapes Go.WideShapes Go.ChangeAt Go.RowKit

set_option maxHeartbeats 400000 in
theorem pday_ref_ever (w : World) :
    Calls Tryd.prog 15 #[sv Cal.foreverL] w fun e' w' => e' = .returned (.tuple #[.int .i64 1000000, .int .i64 0]) ∧ Ext w w' := by
  unfold Cal.foreverL
  go_enter Tryd.func15, Tryd.ntmps15
  go_wp2_with fail
  go_ret2
  exact ⟨rfl, Ext.refl _⟩
set_option maxHeartbeats 400000 in
theorem pday_ref_len (l : List UInt8) (w : World) (h : l.length ≠ 10) (hf : l ≠ Cal.foreverL) :
    Calls Tryd.prog 15 #[sv l] w fun e' w' => e' = .returned (.tuple #[.int .i64 0, .int .i64 5]) ∧ Ext w w' := by
  have hq : (l == [102, 111, 114, 101, 118, 101, 114]) = false := beq_eq_false_iff_ne.2 hf
  clear hf
  go_enter Tryd.func15, Tryd.ntmps15
  go_wp2_with fail
  go_ret2
  exact ⟨rfl, Ext.refl _⟩
set_option maxHeartbeats 400000 in
theorem pday_ref_four (a b c d e f g i j k : UInt8) (w : World) (h : e.toNat ≠ 45) :
    Calls Tryd.prog 15 #[sv [a, b, c, d, e, f, g, i, j, k]] w fun e' w' => e' = .returned (.tuple #[.int .i64 0, .int .i64 5]) ∧ Ext w w' := by
  have i4 : ∀ h, ({ data := #[a, b, c, d, e, f, g, i, j, k] } : ByteArray)[4]'h = e := fun _ => rfl
  have n4 : ((e.toNat : Int) != 45) = true := by rw [bne_iff_ne]; omega
  have m4 : ((e.toNat : Int) == 45) = false := by rw [beq_eq_false_iff_ne]; omega
  have k4 : ¬ (e.toNat : Int) = 45 := by omega
  clear h
  go_enter Tryd.func15, Tryd.ntmps15
  go_wp2_with fail
  go_ret2
  exact ⟨rfl, Ext.refl _⟩
set_option maxHeartbeats 400000 in
theorem pday_ref_seven (a b c d f g i j k : UInt8) (w : World) (h : i.toNat ≠ 45) :
    Calls Tryd.prog 15 #[sv [a, b, c, d, 45, f, g, i, j, k]] w fun e' w' => e' = .returned (.tuple #[.int .i64 0, .int .i64 5]) ∧ Ext w w' := by
  have i4 : ∀ h, ({ data := #[a, b, c, d, 45, f, g, i, j, k] } : ByteArray)[4]'h = 45 := fun _ => rfl
  have i7 : ∀ h, ({ data := #[a, b, c, d, 45, f, g, i, j, k] } : ByteArray)[7]'h = i := fun _ => rfl
  have n4 : ((i.toNat : Int) != 45) = true := by rw [bne_iff_ne]; omega
  have m4 : ((i.toNat : Int) == 45) = false := by rw [beq_eq_false_iff_ne]; omega
  have k4 : ¬ (i.toNat : Int) = 45 := by omega
  clear h
  go_enter Tryd.func15, Tryd.ntmps15
  go_wp2_with fail
  go_ret2
  exact ⟨rfl, Ext.refl _⟩
theorem pday_ref (l : List UInt8) (w : World) :
    Calls Tryd.prog 15 #[sv l] w fun e' w' => e' = .returned (.tuple #[.int .i64 (Cal.pdV l), .int .i64 (Cal.pdE l)]) ∧ Ext w w' := by
  by_cases hf : l = Cal.foreverL
  · subst hf; rw [Cal.pd_forever.1, Cal.pd_forever.2]; exact pday_ref_ever w
  · by_cases hl : l.length = 10
    · obtain ⟨a, b, c, d, e, f, g, i, j, k, rfl⟩ := Cal.ten_of hl
      by_cases h4 : e.toNat = 45
      · obtain rfl : e = 45 := UInt8.toNat_inj.1 (by rw [h4]; rfl)
        by_cases h7 : i.toNat = 45
        · obtain rfl : i = 45 := UInt8.toNat_inj.1 (by rw [h7]; rfl)
          exact pday_ref_ten a b c d f g j k w
        · obtain ⟨p1, p2⟩ := pd_bad (form_bad (l := [a, b, c, d, 45, f, g, i, j, k]) 7 (by omega) (by simp [Cal.okAt, h7])) hf
          rw [p1, p2]; exact pday_ref_seven a b c d f g i j k w h7
      · obtain ⟨p1, p2⟩ := pd_bad (form_bad (l := [a, b, c, d, e, f, g, i, j, k]) 4 (by omega) (by simp [Cal.okAt, h4])) hf
        rw [p1, p2]; exact pday_ref_four a b c d e f g i j k w h4
    · obtain ⟨p1, p2⟩ := pd_bad (l := l) (by cases hb : Cal.form l; rfl; exact absurd ((Cal.form_iff l).1 hb).1 hl) hf
      rw [p1, p2]; exact pday_ref_len l w hl hf
end Go.Proofs.YtpdafoinhpjklaaDoor
