/- Slices of periods that are only read. -/
import Derived.Test.YtckknhocmbhmhaaPL
import Derived.Deep.QuietTactic
import Derived.BigQuiet
namespace Go.Proofs.Ytckknhocmbhmhaa
open Go.ChangeShapes Go.WideShapes Go.ChangeAt Go.RowKit

/-- the value is a slice whose cells hold these periods -/
def Rd (w : World) (v : Value) (l : List (Int × Int)) : Prop :=
  ∃ ad cap, v = .slice ad l.length cap ∧ l.length ≤ cap ∧ cap ≤ maxLen ∧ (ad = none → cap = 0) ∧
    ∀ (i : Nat) (h : i < l.length), ∃ g o, ad = some ⟨g, o, none⟩ ∧ w.cell? ⟨g, o + i * 2, none⟩ = some (.int .i64 l[i].1) ∧ w.cell? ⟨g, o + i * 2 + 1, none⟩ = some (.int .i64 l[i].2)
theorem rd_of_owns {w : World} {base : Nat} {e : TypeId} {v : Value} {l : List (Int × Int)} (ho : w.ownsRow base e 2 v l.length (cellsL l)) : Rd w v l := by
  rcases ho.2 with ⟨rfl, hn⟩ | ⟨g, cap, cur, rfl, hb, hg, hc, hm, hs, ht⟩
  · exact ⟨none, 0, by rw [hn], by omega, Nat.zero_le _, fun _ => rfl, fun i h => by omega⟩
  · refine ⟨some ⟨g, 0, none⟩, cap, rfl, hc, hm, (fun h => by cases h), fun i h => ⟨g, 0, rfl, ?_, ?_⟩⟩
    · rw [Nat.zero_add, ho.cellAt (i * 2) (by omega)]; exact (cellsL_at l i h).1
    · rw [Nat.zero_add, ho.cellAt (i * 2 + 1) (by omega)]; exact (cellsL_at l i h).2
theorem Rd.ext {w w' : World} {v : Value} {l : List (Int × Int)} (h : Rd w v l) (e : Ext w w') : Rd w' v l := by
  obtain ⟨ad, cap, rfl, h1, h2, h3, h4⟩ := h
  refine ⟨ad, cap, rfl, h1, h2, h3, fun i hi => ?_⟩
  obtain ⟨g, o, rfl, c0, c1⟩ := h4 i hi
  exact ⟨g, o, rfl, e.keeps c0, e.keeps c1⟩
theorem rd_nil (w : World) : Rd w (.slice none 0 0) [] := ⟨none, 0, rfl, Nat.le_refl _, Nat.zero_le _, fun _ => rfl, fun i h => by simp at h⟩
/-- the cells of such a slice as a list -/
theorem Rd.news {w : World} {ad : Addr} {n cap : Nat} {l : List (Int × Int)} (h : Rd w (.slice (some ad) n cap) l) : ∀ j u, (cellsL l)[j]? = some u → w.cell? (ad.add j) = some u := by
  obtain ⟨ad', cap', e, h1, h2, h3, h4⟩ := h
  simp only [Value.slice.injEq] at e
  obtain ⟨rfl, rfl, rfl⟩ := e
  intro j u hj
  have hlt : j < l.length * 2 := by rw [← cellsL_len]; exact (List.getElem?_eq_some_iff.1 hj).1
  obtain ⟨g, o, e, c0, c1⟩ := h4 (j / 2) (by omega)
  simp only [Option.some.injEq] at e
  subst e
  have hx := cellsL_at l (j / 2) (by omega)
  have hadd : (⟨g, o, none⟩ : Addr).add j = ⟨g, o + j, none⟩ := by unfold Addr.add; split <;> simp_all
  rw [hadd]
  rcases Nat.mod_two_eq_zero_or_one j with m | m
  · rw [show o + j = o + j / 2 * 2 by omega, c0, ← hx.1, show j / 2 * 2 = j by omega, hj]
  · rw [show o + j = o + j / 2 * 2 + 1 by omega, c1, ← hx.2, show j / 2 * 2 + 1 = j by omega, hj]
theorem cellsL_one (l : List (Int × Int)) : ∀ u ∈ cellsL l, u.oneCell' = true := by
  intro u hu
  unfold cellsL at hu
  simp at hu
  obtain ⟨a, b, _, rfl | rfl⟩ := hu <;> rfl
end Go.Proofs.Ytckknhocmbhmhaa
