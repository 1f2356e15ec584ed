/- How values lie in cells. -/
import Derived.Test.YtohpmbabegpefaaEnI
import Derived.Test.YtohpmbabegpefaaVwC
namespace Go.Proofs.Ytohpmbabegpefaa
open Go.ChangeShapes Go.WideShapes Go.ChangeAt Go.RowKit

instance : Enc V := ⟨3, by decide, fun v => [.int .i64 v.k, .int .i64 v.n, sv v.s], fun _ => rfl, fun a u h => by simp at h; rcases h with rfl | rfl | rfl <;> rfl⟩
def tV : RowT V := ⟨43, 30, nul, .agg #[.int .i64 0, .int .i64 0, sv []], 32, Try.underlying30, by kernel_rfl, by rfl, by decide⟩
theorem rd_V {w : World} {ad : Option Addr} {n cap : Nat} {l : List V} (h : RdG w (.slice ad n cap) l) (i : Nat) (hi : i < l.length) : ∃ g o, ad = some ⟨g, o, none⟩ ∧ w.cell? ⟨g, o + i * 3, none⟩ = some (.int .i64 l[i].k) ∧ w.cell? ⟨g, o + i * 3 + 1, none⟩ = some (.int .i64 l[i].n) ∧ w.cell? ⟨g, o + i * 3 + 2, none⟩ = some (sv l[i].s) := by
  obtain ⟨g, o, e, c⟩ := h.at i hi
  exact ⟨g, o, e, c 0 _ rfl, c 1 _ rfl, c 2 _ rfl⟩
end Go.Proofs.Ytohpmbabegpefaa
