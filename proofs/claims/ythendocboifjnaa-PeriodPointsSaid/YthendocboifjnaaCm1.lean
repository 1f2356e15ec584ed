/- The contract of period's samplePeriods. -/
import Derived.Test.YthendocboifjnaaCmp
namespace Go.Proofs.Ythendocboifjnaa
open Go.ChangeShapes Go.WideShapes Go.ChangeAt Go.RowKit

theorem news1 (Y : World) (x y : Value) (t : TypeId) : ∀ j u, [x, y][j]? = some u → (Y.alloc (.cells #[x, y] t)).cell? ((⟨Y.heap.size, 0, none⟩ : Addr).add j) = some u := news2 Y x y t _ rfl
/-- the samples, in a block of their own -/
def SampPost (w : World) (e : Ending) (w' : World) : Prop := ∃ v, e = .returned v ∧ w'.ownsRow w.heap.size 23 2 v 15 (cellsL psL) ∧ Ext w w'
set_option maxHeartbeats 4000000 in
theorem samples (w : World) : Calls Try.prog 30 #[] w (SampPost w) := by
  obtain ⟨i0, hi, hz0, hz1, hz2⟩ := info_parts infoP
  go_enter Try.func30, Try.ntmps30
  go_wp2_with fail
  go_loopw [1, 4] (fun v i wr => ∃ k : Nat, k ≤ 6 ∧ i = .int .i64 k ∧ wr.ownsRow w.heap.size 23 2 v (off k) (cellsL (psL.take (off k))) ∧ Ext w wr) (fun _ i _ => 6 - (intOf i).toNat)
  case atStart => exact ⟨0, by omega, rfl, World.ownsRow_nil _ _ _ _, Ext.refl _⟩
  case round =>
    obtain ⟨k, hk, rfl, hown, hE⟩ := hrel
    by_cases hlt : k < 6
    · obtain ⟨n1, n2⟩ := off_next k hlt
      have N1 := Lib.hid n1
      clear n1
      have hd : decide ((k : Int) < 6) = true := decide_eq_true (by omega)
      go_wp2_with fail
      go_loopw [1, 3] (fun v t wr => ∃ m : Nat, k < m ∧ m ≤ 6 ∧ t = .int .i64 m ∧ wr.ownsRow w.heap.size 23 2 v (off k + (m - k - 1)) (cellsL (psL.take (off k + (m - k - 1)))) ∧ Ext w wr) (fun _ t _ => 6 - (intOf t).toNat)
      case atStart => exact ⟨k + 1, by omega, by omega, by go_num, by rw [show off k + (k + 1 - k - 1) = off k by omega]; exact hown, hE⟩
      case round =>
        obtain ⟨m, hm0, hm, rfl, hown2, hE2⟩ := hrel
        clear hown hE
        by_cases hlt2 : m < 6
        · obtain ⟨f1, f2⟩ := off_facts k hlt m hlt2 hm0
          have F2 := Lib.hid f2
          clear f2
          have hb2 : w.heap.size ≤ wr.heap.size := hE2.2.2
          go_wp2_with (at_builtin; refine wpList_append_own _ rfl _ _ 40 rfl w.heap.size 23 i0 (.agg #[.int .i64 0, .int .i64 0]) 2 16 Try.underlying40 hi hz0 hz1 hz2 rfl (by decide) _ _ _ rfl (hown2.alloc _) ⟨wr.heap.size, 0, none⟩ 1 1 [.int .i64 k, .int .i64 m] rfl rfl (news1 _ _ _ _) (one2 _ _) (by unfold maxLen; omega) (by omega) (by simp; omega) ?_; intro v6 w6 hown6 hgrow6 hnil6; have hE6 : Ext w w6 := ext_grownBy (hE2.alloc _ _) hgrow6 (fun kk h => (hown2.lt kk h).1); have HO := Lib.hid hown6; clear hown6 hgrow6 hnil6)
          go_roundw
          case rel => exact ⟨m + 1, by omega, by omega, by go_num, by have := HO.out; rw [show [Value.int .i64 k, Value.int .i64 m] = cellsL [((k : Int), (m : Int))] from rfl, ← cellsL_append, ← F2.out] at this; rw [show off k + (m + 1 - k - 1) = off k + (m - k - 1) + 1 by omega]; exact this, hE6⟩
          case measure => simp [intOf]; omega
        · obtain rfl : m = 6 := by omega
          go_wp2_with fail
          go_roundw
          case rel => exact ⟨k + 1, by omega, by go_num, by rw [← N1.out]; exact hown2, hE2⟩
          case measure => simp [intOf]; omega
    · obtain rfl : k = 6 := by omega
      go_wp2_with fail
      go_ret
      exact ⟨_, rfl, hown, hE⟩
end Go.Proofs.Ythendocboifjnaa
