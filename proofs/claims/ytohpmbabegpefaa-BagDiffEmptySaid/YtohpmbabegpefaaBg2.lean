/- Bags that agree when the lineage is left out. -/
import Derived.Test.YtohpmbabegpefaaBg
namespace Go.Proofs.Ytohpmbabegpefaa

theorem sur_nil (f : List V → Nat) (l : List R) : sur f l = [] ↔ ∀ v, cnt l v ≤ f v := by
  constructor
  · intro h v
    have := sur_cnt v l f
    rw [h] at this
    have h0 : cnt ([] : List R) v = 0 := rfl
    omega
  · intro h
    cases hs : sur f l with
    | nil => rfl
    | cons x m =>
      have h1 := sur_cnt x.v l f
      rw [hs] at h1
      have h2 := cnt_pos (l := x :: m) (x := x) (by simp)
      have := h x.v
      omega
/-- without the lineage -/
def bare (r : R) : R := ⟨r.v, []⟩
theorem bare_perm (A B : List R) : (A.map bare).Perm (B.map bare) ↔ ∀ v, cnt A v = cnt B v := by
  rw [← perm_cnt]
  have h1 : ∀ l : List R, (l.map bare).map R.v = l.map R.v := fun l => by rw [List.map_map]; rfl
  have h2 : ∀ l : List R, (l.map R.v).map (fun v => (⟨v, []⟩ : R)) = l.map bare := fun l => by rw [List.map_map]; rfl
  constructor
  · intro h; have := h.map R.v; rw [h1, h1] at this; exact this
  · intro h; have := h.map (fun v => (⟨v, []⟩ : R)); rw [h2, h2] at this; exact this
theorem diff_empty (A B : List R) : (sur (cnt B) (sortR A) = [] ∧ sur (cnt A) (sortR B) = []) ↔ sortR (A.map bare) = sortR (B.map bare) := by
  rw [sortR_eq, bare_perm, sur_nil, sur_nil]
  constructor
  · rintro ⟨h1, h2⟩ v
    have a := h1 v
    have b := h2 v
    rw [cnt_perm (sortR_perm A)] at a
    rw [cnt_perm (sortR_perm B)] at b
    omega
  · intro h
    exact ⟨fun v => by rw [cnt_perm (sortR_perm A), h]; exact Nat.le_refl _, fun v => by rw [cnt_perm (sortR_perm B), h]; exact Nat.le_refl _⟩
end Go.Proofs.Ytohpmbabegpefaa
