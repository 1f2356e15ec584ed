/- Ascending lists of numbers: one list for one set. -/
import Derived.Test.YtohpmbabegpefaaBase
namespace Go.Proofs.Ytohpmbabegpefaa

def Asc (l : List Int) : Prop := l.Pairwise (· < ·)
theorem asc_unique : ∀ a b : List Int, Asc a → Asc b → (∀ c, c ∈ a ↔ c ∈ b) → a = b
  | [], [], _, _, _ => rfl
  | [], y :: b, _, _, h => absurd ((h y).2 (by simp)) (by simp)
  | x :: a, [], _, _, h => absurd ((h x).1 (by simp)) (by simp)
  | x :: a, y :: b, ha, hb, h => by
    obtain ⟨ha1, ha2⟩ := List.pairwise_cons.1 ha
    obtain ⟨hb1, hb2⟩ := List.pairwise_cons.1 hb
    have hxy : x = y := by
      have h1 := (h x).1 (by simp)
      have h2 := (h y).2 (by simp)
      rcases List.mem_cons.1 h1 with e | e
      · exact e
      · rcases List.mem_cons.1 h2 with f | f
        · exact f.symm
        · have := hb1 x e; have := ha1 y f; omega
    subst hxy
    rw [asc_unique a b ha2 hb2 fun c => ?_]
    constructor
    · intro hc
      rcases List.mem_cons.1 ((h c).1 (List.mem_cons_of_mem _ hc)) with e | e
      · have := ha1 c hc; omega
      · exact e
    · intro hc
      rcases List.mem_cons.1 ((h c).2 (List.mem_cons_of_mem _ hc)) with e | e
      · have := hb1 c hc; omega
      · exact e
end Go.Proofs.Ytohpmbabegpefaa
