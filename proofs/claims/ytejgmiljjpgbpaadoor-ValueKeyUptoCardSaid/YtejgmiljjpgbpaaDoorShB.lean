/- strings.Builder's WriteByte at this program: the library's contract; the laying by hand, for the cut copyCheck names no string. -/
import Derived.Test.YtejgmiljjpgbpaaDoorShelf
namespace Go.Proofs
open Go.Shelf
def Tryd.lays167h_ren : Go.Shelf.Ren := ⟨fun | 167 => 60 | 240 => 69 | 276 => 82 | n => n, Tryd.lays155_ren.t, Tryd.lays155_ren.g⟩
theorem Tryd.lays167h : Go.Proofs.Lays.n167 Tryd.prog Tryd.lays167h_ren := { Tryd.lays155 with
  f167 := Tryd.func60.trans (congrArg some (by kernel_rfl))
  f240 := Tryd.func69.trans (congrArg some (by kernel_rfl))
  f276 := Tryd.func82.trans (congrArg some (by kernel_rfl)) }
theorem Tryd.Builder_Extra_167h : Builder.Extra Tryd.prog Tryd.lays167h_ren where
  sizeBuilder := by kernel_rfl
  liesBuilder := by kernel_rfl
  t5 := Tryd.underlying5
  a5 := Tryd.isAgg5
  z5 := Tryd.sizeOf5
  v5 := Tryd.zeroValue5
  infoByte := by kernel_rfl
  cellsByte := by kernel_rfl
  sizeByte := by kernel_rfl
  neB5 := by decide
open Go.RowKit in
theorem Tryd.Builder_WriteByte_h (B b : Nat) (bs : List Value) (c : Int) (w : World) (h : Lib.IsBuilderF 71 5 B b bs w) (hlen : bs.length + 1 ≤ 140737488355328) (hBw : B ≤ w.heap.size) :
    Calls Tryd.prog 60 #[.pointer (some ⟨b, 0, none⟩), .int .u8 c] w fun e w' => e = .returned .nilIface ∧ (Lib.BuilderAtF 71 5 B b (.pointer (some ⟨b, 0, none⟩)) (bs ++ [.int .u8 c]) w' ∧ Below B w w' ∧ Lib.OthersKept 5 (some b) w w') :=
  Any.Builder_WriteByte_k Tryd.lays167h Tryd.Builder_Extra_167h B b bs c w h hlen hBw
end Go.Proofs
