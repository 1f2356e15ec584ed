/- The contract of the program's ParseDay. -/
import Derived.Test.YtpdafoinhpjklaaDoorPrs2
namespace Go.Proofs.YtpdafoinhpjklaaDoor
open Go.ChangeShapes Go.WideShapes Go.ChangeAt Go.RowKit

/-- a contract of a function that leaves the world alone, in a region that draws -/
theorem quietS {N : Nat} {args : Array Value} {w : World} {n : Nat} {v : Value} (h : ∀ w0, Calls Tryd.prog N args w0 fun e w' => e = .returned v ∧ w0 = w') :
    Calls Tryd.prog N args (w.drewN n) fun e w'' => e = .returned v ∧ ∃ m, w'' = w.drewN m :=
  Calls.quiet_of_same ((h _).mono fun _ _ ⟨a, b⟩ => ⟨a, b.symm⟩)
theorem ext_drewN (w : World) (n : Nat) : Ext w (w.drewN n) := by
  induction n generalizing w with
  | zero => exact Ext.refl _
  | succ n ih => exact (Ext.refl w).drew.trans (ih w.drew)
theorem pd_form {l : List UInt8} (h : Cal.form l = true) : Cal.pdV l = Cal.fdV (Cal.yOf l) (Cal.mOf l) (Cal.dOf l) ∧ (Cal.fdB (Cal.yOf l) (Cal.mOf l) (Cal.dOf l) = true → Cal.pdE l = 0) ∧ (Cal.fdB (Cal.yOf l) (Cal.mOf l) (Cal.dOf l) = false → Cal.pdE l = 10) := by
  have hf := Cal.form_not_forever h
  unfold Cal.pdV Cal.pdE
  rw [if_neg hf, if_neg hf, if_pos h, if_pos h]
  exact ⟨rfl, fun a => by rw [if_pos a], fun a => by rw [if_neg (by rw [a]; decide)]⟩
theorem pd_bad {l : List UInt8} (h : Cal.form l = false) (hf : l ≠ Cal.foreverL) : Cal.pdV l = 0 ∧ Cal.pdE l = 5 := by
  unfold Cal.pdV Cal.pdE
  rw [if_neg hf, if_neg hf, if_neg (by rw [h]; decide), if_neg (by rw [h]; decide)]
  exact ⟨rfl, rfl⟩
theorem form_yes_prog (a b c d e f g i j k : UInt8) (w : World) (h : Cal.form [a, b, c, d, e, f, g, i, j, k] = true) : Calls Tryd.prog 24 #[sv [a, b, c, d, e, f, g, i, j, k]] w fun e' w' => e' = .returned (.bool true) ∧ Ext w w' := by
  have := form_prog_ten a b c d e f g i j k w; rwa [h] at this
theorem form_no_prog (l : List UInt8) (w : World) (h : Cal.form l = false) : Calls Tryd.prog 24 #[sv l] w fun e' w' => e' = .returned (.bool false) ∧ Ext w w' := by
  by_cases hl : l.length = 10
  · obtain ⟨a, b, c, d, e, f, g, i, j, k, rfl⟩ := Cal.ten_of hl
    have := form_prog_ten a b c d e f g i j k w; rwa [h] at this
  · exact (form_prog_len l w hl).mono fun _ _ ⟨a, b⟩ => ⟨a, b ▸ Ext.refl _⟩
theorem fd_civ_b (y m d : Int) (w : World) (hy : y ≤ 9223372036854775807) (b : Bool) (h : Cal.fdB y m d = b) :
    Calls Tryd.prog 25 #[.int .i64 y, .int .i64 m, .int .i64 d] w fun e w' => e = .returned (.tuple #[.int .i64 (Cal.fdV y m d), .bool b]) ∧ w = w' := by
  have := fd_civ y m d w hy; rwa [h] at this

set_option maxHeartbeats 400000 in
theorem pday_prog_ever (w : World) :
    Calls Tryd.prog 14 #[sv Cal.foreverL] w fun e' w' => e' = .returned (.tuple #[.int .i64 1000000, .int .i64 0]) ∧ Ext w w' := by
  unfold Cal.foreverL
  go_enter Tryd.func14, Tryd.ntmps14
  go_wp2_with fail
  go_ret2
  exact ⟨rfl, Ext.refl _⟩
set_option maxHeartbeats 400000 in
theorem pday_prog_bad (l : List UInt8) (w : World) (h : Cal.form l = false) (hf : l ≠ Cal.foreverL) :
    Calls Tryd.prog 14 #[sv l] w fun e' w' => e' = .returned (.tuple #[.int .i64 0, .int .i64 5]) ∧ Ext w w' := by
  have HF := Lib.hid h
  have hq : (l == [102, 111, 114, 101, 118, 101, 114]) = false := beq_eq_false_iff_ne.2 hf
  clear h hf
  go_enter Tryd.func14, Tryd.ntmps14
  go_wp2_with fail
  refine (form_no_prog l w HF.out).mono ?_; rintro e' w1 ⟨rfl, hE⟩
  go_wp2_with fail
  go_ret2
  exact ⟨rfl, hE⟩
set_option maxHeartbeats 400000 in
theorem pday_prog_form (a b c d e f g i j k : UInt8) (w : World) (h : Cal.form [a, b, c, d, e, f, g, i, j, k] = true) :
    Calls Tryd.prog 14 #[sv [a, b, c, d, e, f, g, i, j, k]] w fun e' w' => e' = .returned (.tuple #[.int .i64 (Cal.pdV [a, b, c, d, e, f, g, i, j, k]), .int .i64 (Cal.pdE [a, b, c, d, e, f, g, i, j, k])]) ∧ Ext w w' := by
  obtain ⟨p1, p2, p3⟩ := pd_form h
  have hy := (Cal.of_bd h).2.1
  have HF := Lib.hid h
  cases hb : Cal.fdB (Cal.yOf [a, b, c, d, e, f, g, i, j, k]) (Cal.mOf [a, b, c, d, e, f, g, i, j, k]) (Cal.dOf [a, b, c, d, e, f, g, i, j, k])
  all_goals
    first | rw [p1, p2 hb] | rw [p1, p3 hb, Cal.fdV_no hb]
    have HB := Lib.hid hb
    clear h p1 p2 p3 hb
    go_enter Tryd.func14, Tryd.ntmps14
    go_wp2_with fail
    refine (form_yes_prog a b c d e f g i j k w HF.out).mono ?_; rintro e' w1 ⟨rfl, hE⟩
    go_wp2_with fail
    go_quiet (first
      | (go_at_call 26; with_reducible exact quietS fun w0 => number_y a b c d e f g i j k w0 HF.out)
      | (go_at_call 26; with_reducible exact quietS fun w0 => number_m a b c d e f g i j k w0 HF.out)
      | (go_at_call 26; with_reducible exact quietS fun w0 => number_d a b c d e f g i j k w0 HF.out)
      | (go_at_call 25; with_reducible exact quietS fun w0 => fd_civ_b _ _ _ w0 (by omega) _ HB.out))
    go_wp2_with fail
    go_ret2
    exact ⟨rfl, hE.trans (ext_drewN _ _)⟩
theorem pday_prog (l : List UInt8) (w : World) :
    Calls Tryd.prog 14 #[sv l] w fun e' w' => e' = .returned (.tuple #[.int .i64 (Cal.pdV l), .int .i64 (Cal.pdE l)]) ∧ Ext w w' := by
  by_cases hf : l = Cal.foreverL
  · subst hf; rw [Cal.pd_forever.1, Cal.pd_forever.2]; exact pday_prog_ever w
  · cases hb : Cal.form l
    · obtain ⟨p1, p2⟩ := pd_bad hb hf
      rw [p1, p2]; exact pday_prog_bad l w hb hf
    · obtain ⟨a, b, c, d, e, f, g, i, j, k, rfl⟩ := Cal.ten_of ((Cal.form_iff l).1 hb).1
      exact pday_prog_form a b c d e f g i j k w hb
end Go.Proofs.YtpdafoinhpjklaaDoor
