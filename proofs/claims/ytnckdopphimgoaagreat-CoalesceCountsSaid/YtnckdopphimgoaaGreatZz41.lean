/- What the builder's tuples are. -/
import Derived.Test.YtnckdopphimgoaaGreatZz18
import Derived.Test.YtnckdopphimgoaaGreatZz30
import Derived.Test.YtnckdopphimgoaaGreatZz39
import Derived.Test.YtnckdopphimgoaaGreatZz40
namespace Go.Proofs.YtnckdopphimgoaaGreat
open Go.ChangeShapes Go.WideShapes Go.ChangeAt Go.RowKit

/-- what Tuples gives, «as» these proofs want it -/
def BlP (M : Nat) (w : World) (e : Ending) (w' : World) : Prop := ∃ (v : Value) (ts : List TP), e = .returned v ∧ OwnG tT.e w w' v ts ∧ RdTs w' ts ∧ SmT ts ∧ ts.length ≤ M
theorem built (M : Nat) (hM : M ≤ 30) (l : List Five) (v : Value) (w : World) (h : RdG w v l) (hok : ∀ x ∈ l, x.ok) : Calls Tryz.prog 11 #[v, .int .i64 M] w (BlP M w) :=
  (tuples_law M hM l v w h hok).mono fun _ _ ⟨v, ts, a, b, c, d⟩ => ⟨v, ts, a, b, fun t ht => (c t ht).1, fun t ht => by
    have := (c t ht).2.2
    omega, d⟩
theorem eqv_refl (l : List Tu) : EqvP l l := fun _ _ => rfl
theorem few_sm {ps : List TP} {k : Int} (h : FewT ps k) : SmT ps := fun p hp => by have := h.2 p hp; omega
end Go.Proofs.YtnckdopphimgoaaGreat
