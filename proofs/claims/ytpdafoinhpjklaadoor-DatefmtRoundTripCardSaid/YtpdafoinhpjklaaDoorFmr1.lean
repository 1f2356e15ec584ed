/- Contracts of the reference's digits, FormatDay and FormatPeriod. -/
import Derived.Test.YtpdafoinhpjklaaDoorFmt1
import Derived.Test.YtpdafoinhpjklaaDoorWalk3
import Derived.Test.YtpdafoinhpjklaaDoorVal
import Derived.Laws.MakeOwn
import Derived.Laws.BytesArg
import Derived.Laws.OwnMore
namespace Go.Proofs.YtpdafoinhpjklaaDoor
open Go.ChangeShapes Go.WideShapes Go.ChangeAt Go.RowKit

theorem infoB : (Tryd.prog.info? 5).map (fun i => (i.zero, i.size, i.bytes)) = some (some (.int .u8 0), 1, 1) := by kernel_rfl
theorem mk_bytes (k : Int) (n : Nat) (hk : k = n) (w : World) (h : n ≤ 100) :
    (Instr.makeSlice 54 (.int .i64 k) (.int .i64 k)).run Tryd.prog w = .ok (.slice (some ⟨w.heap.size, 0, none⟩) n n) (w.alloc (.cells (madeCells #[.int .u8 0] n) 5)) := by
  obtain ⟨i, hi, h1⟩ := Option.map_eq_some_iff.1 infoB
  simp only [Prod.mk.injEq] at h1
  obtain ⟨hz, hs, hb⟩ := h1
  have := run_make (P := Tryd.prog) w 54 5 i (.int .u8 0) Tryd.underlying54 hi hz .i64 .i64 k k (by omega) (Int.le_refl _) (by rw [hb]; omega) (by omega)
  rw [this, hs, hk]
  simp [Value.cells]
theorem conv_bytes (w : World) (xs : List Int) :
    (convert 54 9 (.slice (some ⟨w.heap.size, 0, none⟩) xs.length xs.length)).run Tryd.prog (w.alloc (.cells (xs.map (Value.int .u8)).toArray 5)) =
      .ok (sv (xs.map fun n => UInt8.ofNat n.toNat)) (w.alloc (.cells (xs.map (Value.int .u8)).toArray 5)) := by
  have := run_convert_bytes_arg (P := Tryd.prog) (w.alloc (.cells (xs.map (Value.int .u8)).toArray 5)) 54 5 Tryd.underlying54 Tryd.underlying5 w.heap.size 0 xs.length xs.length xs rfl (fun i hi => by
    rw [World.cell?, (MapKept.heap_alloc w _).1]
    simp [hi, List.getD]) 9 Tryd.underlying9
  rw [this]
  rfl
theorem dch_of (n : Int) (h : 0 ≤ n) : UInt8.ofNat (48 + n % 10).toNat = Cal.dch n := by
  unfold Cal.dch; rw [show (48 + n % 10).toNat = 48 + n.toNat % 10 by omega]

def dig2 (w : World) (n : Int) (a b : Value) (W : World) : Prop :=
  (a = .int .i64 n ∧ b = .int .i64 1 ∧ W = w.alloc (.cells #[.int .u8 0, .int .u8 0] 5)) ∨
  (a = .int .i64 (n / 10) ∧ b = .int .i64 0 ∧ W = w.alloc (.cells #[.int .u8 0, .int .u8 (48 + n % 10)] 5)) ∨
  (a = .int .i64 (n / 10 / 10) ∧ b = .int .i64 (-1) ∧ W = w.alloc (.cells #[.int .u8 (48 + n / 10 % 10), .int .u8 (48 + n % 10)] 5))

set_option maxHeartbeats 400000 in
theorem digits_two (n : Int) (w : World) (h0 : 0 ≤ n) (h1 : n < 100) :
    Calls Tryd.prog 23 #[.int .i64 n, .int .i64 2] w fun e w' => e = .returned (sv (Cal.d2 n)) ∧ Ext w w' := by
  have mk := mk_bytes 2 2 rfl w (by omega)
  rw [show madeCells #[.int .u8 0] 2 = #[.int .u8 0, .int .u8 0] from Array.toList_inj.1 (by rw [toList_madeCells_one]; rfl)] at mk
  have HR := Lib.hid (show [UInt8.ofNat (48 + n / 10 % 10).toNat, UInt8.ofNat (48 + n % 10).toNat] = Cal.d2 n by rw [dch_of n h0, dch_of (n / 10) (by omega)]; rfl)
  go_enter Tryd.func23, Tryd.ntmps23
  go_wp2
  clear mk
  go_loopw [0, 6] (dig2 w n) (fun _ i _ => ((intOf i) + 1).toNat)
  case atStart => exact Or.inl ⟨rfl, rfl, rfl⟩
  case round =>
    rcases hrel with ⟨rfl, rfl, rfl⟩ | ⟨rfl, rfl, rfl⟩ | ⟨rfl, rfl, rfl⟩
    · go_wp2
      go_roundw
      case rel => exact Or.inr (Or.inl ⟨rfl, rfl, rfl⟩)
      case measure => decide
    · go_wp2
      go_roundw
      case rel => exact Or.inr (Or.inr ⟨rfl, rfl, rfl⟩)
      case measure => decide
    · have cv := conv_bytes w [48 + n / 10 % 10, 48 + n % 10]
      simp only [List.map, List.length] at cv
      go_wp2
      go_ret
      exact ⟨ret_sv HR.out, (Ext.refl _).alloc _ _⟩
def dig4 (w : World) (n : Int) (a b : Value) (W : World) : Prop :=
  (a = .int .i64 n ∧ b = .int .i64 3 ∧ W = w.alloc (.cells #[.int .u8 0, .int .u8 0, .int .u8 0, .int .u8 0] 5)) ∨
  (a = .int .i64 (n / 10) ∧ b = .int .i64 2 ∧ W = w.alloc (.cells #[.int .u8 0, .int .u8 0, .int .u8 0, .int .u8 (48 + n % 10)] 5)) ∨
  (a = .int .i64 (n / 10 / 10) ∧ b = .int .i64 1 ∧ W = w.alloc (.cells #[.int .u8 0, .int .u8 0, .int .u8 (48 + n / 10 % 10), .int .u8 (48 + n % 10)] 5)) ∨
  (a = .int .i64 (n / 10 / 10 / 10) ∧ b = .int .i64 0 ∧ W = w.alloc (.cells #[.int .u8 0, .int .u8 (48 + n / 10 / 10 % 10), .int .u8 (48 + n / 10 % 10), .int .u8 (48 + n % 10)] 5)) ∨
  (a = .int .i64 (n / 10 / 10 / 10 / 10) ∧ b = .int .i64 (-1) ∧ W = w.alloc (.cells #[.int .u8 (48 + n / 10 / 10 / 10 % 10), .int .u8 (48 + n / 10 / 10 % 10), .int .u8 (48 + n / 10 % 10), .int .u8 (48 + n % 10)] 5))

set_option maxHeartbeats 400000 in
theorem digits_four (n : Int) (w : World) (h0 : 0 ≤ n) (h1 : n < 10000) :
    Calls Tryd.prog 23 #[.int .i64 n, .int .i64 4] w fun e w' => e = .returned (sv (Cal.d4 n)) ∧ Ext w w' := by
  have mk := mk_bytes 4 4 rfl w (by omega)
  rw [show madeCells #[.int .u8 0] 4 = #[.int .u8 0, .int .u8 0, .int .u8 0, .int .u8 0] from Array.toList_inj.1 (by rw [toList_madeCells_one]; rfl)] at mk
  have HR := Lib.hid (show [UInt8.ofNat (48 + n / 10 / 10 / 10 % 10).toNat, UInt8.ofNat (48 + n / 10 / 10 % 10).toNat, UInt8.ofNat (48 + n / 10 % 10).toNat, UInt8.ofNat (48 + n % 10).toNat] = Cal.d4 n by
    rw [dch_of n h0, dch_of (n / 10) (by omega), dch_of (n / 10 / 10) (by omega), dch_of (n / 10 / 10 / 10) (by omega)]
    unfold Cal.d4
    rw [show n / 10 / 10 / 10 = n / 1000 by omega, show n / 10 / 10 = n / 100 by omega])
  go_enter Tryd.func23, Tryd.ntmps23
  go_wp2
  clear mk
  go_loopw [0, 6] (dig4 w n) (fun _ i _ => ((intOf i) + 1).toNat)
  case atStart => exact Or.inl ⟨rfl, rfl, rfl⟩
  case round =>
    rcases hrel with ⟨rfl, rfl, rfl⟩ | ⟨rfl, rfl, rfl⟩ | ⟨rfl, rfl, rfl⟩ | ⟨rfl, rfl, rfl⟩ | ⟨rfl, rfl, rfl⟩
    · go_wp2
      go_roundw
      case rel => exact Or.inr (Or.inl ⟨rfl, rfl, rfl⟩)
      case measure => decide
    · go_wp2
      go_roundw
      case rel => exact Or.inr (Or.inr (Or.inl ⟨rfl, rfl, rfl⟩))
      case measure => decide
    · go_wp2
      go_roundw
      case rel => exact Or.inr (Or.inr (Or.inr (Or.inl ⟨rfl, rfl, rfl⟩)))
      case measure => decide
    · go_wp2
      go_roundw
      case rel => exact Or.inr (Or.inr (Or.inr (Or.inr ⟨rfl, rfl, rfl⟩)))
      case measure => decide
    · have cv := conv_bytes w [48 + n / 10 / 10 / 10 % 10, 48 + n / 10 / 10 % 10, 48 + n / 10 % 10, 48 + n % 10]
      simp only [List.map, List.length] at cv
      go_wp2
      go_ret
      exact ⟨ret_sv HR.out, (Ext.refl _).alloc _ _⟩
end Go.Proofs.YtpdafoinhpjklaaDoor
