/- A sorted list without its repetitions is ascending. -/
import Derived.Test.YtohpmbabegpefaaAsc
import Derived.Lib.SlicesCompact
namespace Go.Proofs.Ytohpmbabegpefaa

theorem cut_asc (d : Array Int) (hs : ∀ i j, i ≤ j → j < d.size → d[i]! ≤ d[j]!) : ∀ m, m ≤ d.size → Asc (Lib.compactUpTo d m) ∧ (∀ c, c ∈ Lib.compactUpTo d m ↔ ∃ j, j < m ∧ d[j]! = c)
  | 0, _ => by simp [Lib.compactUpTo, Asc]
  | m + 1, hm => by
    obtain ⟨h1, h2⟩ := cut_asc d hs m (by omega)
    rw [Lib.compactUpTo_succ]
    by_cases hz : 0 < m ∧ d[m]! = d[m - 1]!
    · rw [Lib.keeps_neg hz.1 hz.2]
      simp only [Bool.false_eq_true, if_false, List.append_nil]
      refine ⟨h1, fun c => (h2 c).trans ⟨fun ⟨j, hj, e⟩ => ⟨j, by omega, e⟩, fun ⟨j, hj, e⟩ => ?_⟩⟩
      by_cases hjm : j = m
      · subst hjm; exact ⟨j - 1, by omega, by rw [← hz.2]; exact e⟩
      · exact ⟨j, by omega, e⟩
    · have hk : Lib.keeps d m = true := by
        by_cases h0 : 0 < m
        · exact Lib.keeps_pos (fun e => hz ⟨h0, e⟩)
        · exact Lib.keeps_lt_one d m (by omega)
      rw [hk]
      simp only [if_true]
      constructor
      · refine List.pairwise_append.2 ⟨h1, by simp, fun x hx y hy => ?_⟩
        obtain ⟨j, hj, e⟩ := (h2 x).1 hx
        have hy' : y = d[m]! := by simpa using hy
        subst hy' e
        have a1 := hs j (m - 1) (by omega) (by omega)
        have a2 := hs (m - 1) m (by omega) (by omega)
        have a3 : d[m]! ≠ d[m - 1]! := fun e => hz ⟨by omega, e⟩
        omega
      · intro c
        rw [List.mem_append, h2 c]
        simp only [List.mem_singleton]
        constructor
        · rintro (⟨j, hj, e⟩ | e)
          · exact ⟨j, by omega, e⟩
          · exact ⟨m, by omega, e.symm⟩
        · rintro ⟨j, hj, e⟩
          by_cases hjm : j = m
          · subst hjm; exact Or.inr e.symm
          · exact Or.inl ⟨j, by omega, e⟩
theorem sort_cut (zs : List Int) : Asc (Lib.compact (zs.mergeSort fun x y => decide (x ≤ y))) ∧ (∀ c, c ∈ Lib.compact (zs.mergeSort fun x y => decide (x ≤ y)) ↔ c ∈ zs) := by
  have hp := List.mergeSort_perm zs (fun x y => decide (x ≤ y))
  have hs := List.pairwise_mergeSort (le := fun (x y : Int) => decide (x ≤ y)) (by intro a b c; simp; omega) (by intro a b; simp; omega) zs
  generalize zs.mergeSort (fun x y => decide (x ≤ y)) = ys at *
  have hm : ∀ i j, i ≤ j → j < ys.toArray.size → ys.toArray[i]! ≤ ys.toArray[j]! := by
    intro i j hij hj
    have hj' : j < ys.length := by simpa using hj
    by_cases e : i = j
    · subst e; exact Int.le_refl _
    · have := List.pairwise_iff_getElem.1 hs i j (by omega) hj' (by omega)
      simpa [show i < ys.length by omega, hj'] using this
  obtain ⟨h1, h2⟩ := cut_asc ys.toArray hm ys.length (by simp)
  refine ⟨h1, fun c => (h2 c).trans ((?_ : _ ↔ c ∈ ys).trans hp.mem_iff)⟩
  rw [List.mem_iff_getElem]
  constructor
  · rintro ⟨j, hj, e⟩; exact ⟨j, hj, by simpa [hj] using e⟩
  · rintro ⟨j, hj, e⟩; exact ⟨j, hj, by simpa [hj] using e⟩
end Go.Proofs.Ytohpmbabegpefaa
