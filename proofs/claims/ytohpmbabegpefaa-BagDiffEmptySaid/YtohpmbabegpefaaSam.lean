/- The reference's SameInts at equal rows. -/
import Derived.Test.YtohpmbabegpefaaEnI
import Derived.Deep.QuietTactic
namespace Go.Proofs.Ytohpmbabegpefaa
open Go.ChangeShapes Go.WideShapes Go.ChangeAt Go.RowKit

set_option maxHeartbeats 4000000 in
theorem same_ints (l : List Int) (va vb : Value) (w : World) (ha : RdG w va l) (hb : RdG w vb l) :
    Calls Try.prog 20 #[va, vb] w fun e w' => e = .returned (.bool true) ∧ Ext w w' := by
  obtain ⟨aa, ca, rfl, hm, hm2⟩ := ha.shape
  obtain ⟨ab, cb, rfl, _, _⟩ := hb.shape
  have XA := Lib.hid ha
  have XB := Lib.hid hb
  clear ha hb
  unfold maxLen at hm2
  obtain ⟨n, hn⟩ : ∃ n, n = l.length := ⟨_, rfl⟩
  have HN := Lib.hid hn
  rw [← hn] at XA XB hm ⊢
  clear hn
  go_enter Try.func20, Try.ntmps20
  go_wp2
  go_loopw [5] (fun i wr => ∃ k : Nat, k ≤ n ∧ i = .int .i64 k ∧ Ext w wr) (fun i _ => n - (intOf i).toNat)
  case atStart => exact ⟨0, by omega, rfl, Ext.refl _⟩
  case round =>
    obtain ⟨k, hk, rfl, hG⟩ := hrel
    by_cases hlt : k < n
    · have hlt' : k < l.length := by rw [← HN.out]; exact hlt
      obtain ⟨ga, oa, rfl, a0⟩ := rd_I XA.out k hlt'
      obtain ⟨gb, ob, rfl, b0⟩ := rd_I XB.out k hlt'
      have A0 := hG.keeps a0
      have B0 := hG.keeps b0
      clear a0 b0
      generalize l[k] = c at *
      have hi0 : (0 : Int) ≤ (k : Int) := Int.natCast_nonneg _
      have hi1 : (k : Int) < (n : Int) := by omega
      go_wp2_with fail
      go_quiet (fail)
      go_wp2_with fail
      go_roundw
      case rel => exact ⟨k + 1, by omega, by go_num, ⟨hG.1, hG.2.1, hG.2.2⟩⟩
      case measure => simp [intOf]; omega
    · go_wp2_with fail
      go_ret
      exact ⟨rfl, hG⟩
end Go.Proofs.Ytohpmbabegpefaa
