/- Where the library's generic functions lie in this program. -/
import Derived.Shelf.Spec.BitsCarry
import Derived.Test.YtbplapkcleipiaaGreatDoorProg
namespace Go.Proofs
open Go.Shelf
def Tryz.add64_ren : Go.Shelf.Ren := ⟨fun | 25 => 162 | n => n, fun | 22 => 147 | n => n, fun | n => n⟩
theorem Tryz.add64 : Go.Proofs.Lays7.n25 Tryz.prog Tryz.add64_ren := {
  mixed := by kernel_rfl
  f25 := Tryz.func162.trans (congrArg some (by kernel_rfl))
  t22 := Tryz.underlying147
  a22 := Tryz.isAgg147
  z22 := Tryz.sizeOf147
  v22 := Tryz.zeroValue147
  i22 := by kernel_rfl }
end Go.Proofs
