/- A row of the call's own, cut short. -/
import Derived.Lib.SlicesCompact
import Derived.Deep.QuietTactic
import Derived.BigQuiet
import Derived.Test.YtnckdopphimgoaaZz01
import Derived.Test.YtnckdopphimgoaaZz02
import Derived.Test.YtnckdopphimgoaaZz06
import Derived.Test.YtnckdopphimgoaaZz11
namespace Go.Proofs.Ytnckdopphimgoaa
open Go.ChangeShapes Go.WideShapes Go.ChangeAt Go.RowKit

theorem OwnG.take {α : Type} [Enc α] {e : TypeId} {W w : World} {ad : Option Addr} {n cap : Nat} {l : List α} (h : OwnG e W w (.slice ad n cap) l) (k : Nat) (hk : k ≤ l.length) : OwnG e W w (.slice ad k cap) (l.take k) := by
  have hl : (l.take k).length = k := by rw [List.length_take]; omega
  refine ⟨⟨?_, ?_⟩, h.2⟩
  · rw [cellsG_len, hl]
  · rcases h.1.2 with ⟨e1, h0⟩ | ⟨g, cap', cur, e1, hb, hg, hnc, hcm, hcs, htake⟩
    · simp only [Value.slice.injEq] at e1
      obtain ⟨rfl, rfl, rfl⟩ := e1
      have hl0 : k = 0 := by omega
      subst hl0
      exact .inl ⟨rfl, by simp⟩
    · simp only [Value.slice.injEq] at e1
      obtain ⟨rfl, rfl, rfl⟩ := e1
      refine .inr ⟨g, cap, cur, by rw [hl], hb, hg, by rw [hl]; omega, hcm, hcs, ?_⟩
      rw [hl, ← cellsG_take l k hk, ← htake, List.take_take]
      congr 1
      have : k * Enc.sz α ≤ l.length * Enc.sz α := Nat.mul_le_mul_right _ hk
      omega
theorem own_len (a : Option Addr) (n m c : Nat) : (Value.slice a n c).ownBlock = (Value.slice a m c).ownBlock := by cases a <;> rfl
end Go.Proofs.Ytnckdopphimgoaa
/- Two rows of the call's own side by side. -/
namespace Go.Proofs.Ytnckdopphimgoaa
open Go.ChangeShapes Go.WideShapes Go.ChangeAt Go.RowKit

/-- rows in different blocks -/
def Sep (v u : Value) : Prop := ∀ g, v.ownBlock = some g → u.ownBlock ≠ some g
theorem Sep.symm {v u : Value} (h : Sep v u) : Sep u v := fun g hg e => h g e hg
theorem Sep.grow {w : World} {v v' u : Value} (h : Sep v u) (k : Loc w v v') (hu : ∀ g, u.ownBlock = some g → g < w.heap.size) : Sep v' u := fun g hg e => by
  rcases k with k | ⟨g', k1, k2⟩
  · exact h g (k.symm.trans hg) e
  · rw [hg] at k1
    injection k1 with k1
    have := hu g e
    omega
theorem Sep.ne {v u : Value} (h : Sep v u) : v.ownBlock = none ∨ v.ownBlock ≠ u.ownBlock := by
  cases hv : v.ownBlock with
  | none => exact .inl rfl
  | some g => exact .inr fun e => h g hv e.symm
theorem OwnG.grw2 {α : Type} [Enc α] {e e2 : TypeId} {W w w' : World} {v : Value} {l : List α} {b : Option Nat} (h : OwnG e W w v l) (k : Grw w w' b) (hb : RowBlk e2 W w b) (hs : v.ownBlock = none ∨ v.ownBlock ≠ b) : OwnG e W w' v l :=
  ⟨owns_grw h.1 k hs, ext_grw h.2 k fun g hg => (hb g hg).1⟩
/-- two rows of the call's own in different blocks -/
structure Duo {α β : Type} [Enc α] [Enc β] (e e2 : TypeId) (W w : World) (v u : Value) (l : List α) (m : List β) : Prop where
  l : OwnG e W w v l
  m : OwnG e2 W w u m
  sep : Sep v u
theorem Duo.nil {α β : Type} [Enc α] [Enc β] (e e2 : TypeId) {W w : World} (h : Ext W w) : Duo e e2 W w (.slice none 0 0) (.slice none 0 0) ([] : List α) ([] : List β) := ⟨OwnG.nil _ _ _ h, OwnG.nil _ _ _ h, fun g hg => by cases hg⟩
theorem Duo.ext {α β : Type} [Enc α] [Enc β] {e e2 : TypeId} {W w w' : World} {v u : Value} {l : List α} {m : List β} (h : Duo e e2 W w v u l m) (k : Ext w w') : Duo e e2 W w' v u l m := ⟨h.l.ext k, h.m.ext k, h.sep⟩
theorem Duo.swap {α β : Type} [Enc α] [Enc β] {e e2 : TypeId} {W w : World} {v u : Value} {l : List α} {m : List β} (h : Duo e e2 W w v u l m) : Duo e2 e W w u v m l := ⟨h.m, h.l, h.sep.symm⟩
/-- the first grows -/
theorem Duo.left {α β : Type} [Enc α] [Enc β] {e e2 : TypeId} {W w w' : World} {v u v' : Value} {l l' : List α} {m : List β} (h : Duo e e2 W w v u l m) (hO : OwnG e W w' v' l') (hg : w.grownBy w' v.ownBlock) (hl : Loc w v v') : Duo e e2 W w' v' u l' m :=
  ⟨hO, h.m.grw2 (grw_by hg) h.l.blk h.sep.symm.ne, h.sep.grow hl h.m.lt⟩
theorem Duo.right {α β : Type} [Enc α] [Enc β] {e e2 : TypeId} {W w w' : World} {v u u' : Value} {l : List α} {m m' : List β} (h : Duo e e2 W w v u l m) (hO : OwnG e2 W w' u' m') (hg : w.grownBy w' u.ownBlock) (hl : Loc w u u') : Duo e e2 W w' v u' l m' :=
  (h.swap.left hO hg hl).swap
end Go.Proofs.Ytnckdopphimgoaa
/- Ascending lists of numbers: one list for one set. -/
namespace Go.Proofs.Ytnckdopphimgoaa

def Asc (l : List Int) : Prop := l.Pairwise (· < ·)
theorem asc_unique : ∀ a b : List Int, Asc a → Asc b → (∀ c, c ∈ a ↔ c ∈ b) → a = b
  | [], [], _, _, _ => rfl
  | [], y :: b, _, _, h => absurd ((h y).2 (by simp)) (by simp)
  | x :: a, [], _, _, h => absurd ((h x).1 (by simp)) (by simp)
  | x :: a, y :: b, ha, hb, h => by
    obtain ⟨ha1, ha2⟩ := List.pairwise_cons.1 ha
    obtain ⟨hb1, hb2⟩ := List.pairwise_cons.1 hb
    have hxy : x = y := by
      have h1 := (h x).1 (by simp)
      have h2 := (h y).2 (by simp)
      rcases List.mem_cons.1 h1 with e | e
      · exact e
      · rcases List.mem_cons.1 h2 with f | f
        · exact f.symm
        · have := hb1 x e; have := ha1 y f; omega
    subst hxy
    rw [asc_unique a b ha2 hb2 fun c => ?_]
    constructor
    · intro hc
      rcases List.mem_cons.1 ((h c).1 (List.mem_cons_of_mem _ hc)) with e | e
      · have := ha1 c hc; omega
      · exact e
    · intro hc
      rcases List.mem_cons.1 ((h c).2 (List.mem_cons_of_mem _ hc)) with e | e
      · have := hb1 c hc; omega
      · exact e
end Go.Proofs.Ytnckdopphimgoaa
/- A sorted list without its repetitions is ascending. -/
namespace Go.Proofs.Ytnckdopphimgoaa

theorem cut_asc (d : Array Int) (hs : ∀ i j, i ≤ j → j < d.size → d[i]! ≤ d[j]!) : ∀ m, m ≤ d.size → Asc (Lib.compactUpTo d m) ∧ (∀ c, c ∈ Lib.compactUpTo d m ↔ ∃ j, j < m ∧ d[j]! = c)
  | 0, _ => by simp [Lib.compactUpTo, Asc]
  | m + 1, hm => by
    obtain ⟨h1, h2⟩ := cut_asc d hs m (by omega)
    rw [Lib.compactUpTo_succ]
    by_cases hz : 0 < m ∧ d[m]! = d[m - 1]!
    · rw [Lib.keeps_neg hz.1 hz.2]
      simp only [Bool.false_eq_true, if_false, List.append_nil]
      refine ⟨h1, fun c => (h2 c).trans ⟨fun ⟨j, hj, e⟩ => ⟨j, by omega, e⟩, fun ⟨j, hj, e⟩ => ?_⟩⟩
      by_cases hjm : j = m
      · subst hjm; exact ⟨j - 1, by omega, by rw [← hz.2]; exact e⟩
      · exact ⟨j, by omega, e⟩
    · have hk : Lib.keeps d m = true := by
        by_cases h0 : 0 < m
        · exact Lib.keeps_pos (fun e => hz ⟨h0, e⟩)
        · exact Lib.keeps_lt_one d m (by omega)
      rw [hk]
      simp only [if_true]
      constructor
      · refine List.pairwise_append.2 ⟨h1, by simp, fun x hx y hy => ?_⟩
        obtain ⟨j, hj, e⟩ := (h2 x).1 hx
        have hy' : y = d[m]! := by simpa using hy
        subst hy' e
        have a1 := hs j (m - 1) (by omega) (by omega)
        have a2 := hs (m - 1) m (by omega) (by omega)
        have a3 : d[m]! ≠ d[m - 1]! := fun e => hz ⟨by omega, e⟩
        omega
      · intro c
        rw [List.mem_append, h2 c]
        simp only [List.mem_singleton]
        constructor
        · rintro (⟨j, hj, e⟩ | e)
          · exact ⟨j, by omega, e⟩
          · exact ⟨m, by omega, e.symm⟩
        · rintro ⟨j, hj, e⟩
          by_cases hjm : j = m
          · subst hjm; exact Or.inr e.symm
          · exact Or.inl ⟨j, by omega, e⟩
theorem sort_cut (zs : List Int) : Asc (Lib.compact (zs.mergeSort fun x y => decide (x ≤ y))) ∧ (∀ c, c ∈ Lib.compact (zs.mergeSort fun x y => decide (x ≤ y)) ↔ c ∈ zs) := by
  have hp := List.mergeSort_perm zs (fun x y => decide (x ≤ y))
  have hs := List.pairwise_mergeSort (le := fun (x y : Int) => decide (x ≤ y)) (by intro a b c; simp; omega) (by intro a b; simp; omega) zs
  generalize zs.mergeSort (fun x y => decide (x ≤ y)) = ys at *
  have hm : ∀ i j, i ≤ j → j < ys.toArray.size → ys.toArray[i]! ≤ ys.toArray[j]! := by
    intro i j hij hj
    have hj' : j < ys.length := by simpa using hj
    by_cases e : i = j
    · subst e; exact Int.le_refl _
    · have := List.pairwise_iff_getElem.1 hs i j (by omega) hj' (by omega)
      simpa [show i < ys.length by omega, hj'] using this
  obtain ⟨h1, h2⟩ := cut_asc ys.toArray hm ys.length (by simp)
  refine ⟨h1, fun c => (h2 c).trans ((?_ : _ ↔ c ∈ ys).trans hp.mem_iff)⟩
  rw [List.mem_iff_getElem]
  constructor
  · rintro ⟨j, hj, e⟩; exact ⟨j, hj, by simpa [hj] using e⟩
  · rintro ⟨j, hj, e⟩; exact ⟨j, hj, by simpa [hj] using e⟩
end Go.Proofs.Ytnckdopphimgoaa
/- Slices of periods that are only read. -/
namespace Go.Proofs.Ytnckdopphimgoaa
open Go.ChangeShapes Go.WideShapes Go.ChangeAt Go.RowKit

/-- the value is a slice whose cells hold these periods -/
def Rd (w : World) (v : Value) (l : List (Int × Int)) : Prop :=
  ∃ ad cap, v = .slice ad l.length cap ∧ l.length ≤ cap ∧ cap ≤ maxLen ∧ (ad = none → cap = 0) ∧
    ∀ (i : Nat) (h : i < l.length), ∃ g o, ad = some ⟨g, o, none⟩ ∧ w.cell? ⟨g, o + i * 2, none⟩ = some (.int .i64 l[i].1) ∧ w.cell? ⟨g, o + i * 2 + 1, none⟩ = some (.int .i64 l[i].2)
theorem rd_of_owns {w : World} {base : Nat} {e : TypeId} {v : Value} {l : List (Int × Int)} (ho : w.ownsRow base e 2 v l.length (cellsL l)) : Rd w v l := by
  rcases ho.2 with ⟨rfl, hn⟩ | ⟨g, cap, cur, rfl, hb, hg, hc, hm, hs, ht⟩
  · exact ⟨none, 0, by rw [hn], by omega, Nat.zero_le _, fun _ => rfl, fun i h => by omega⟩
  · refine ⟨some ⟨g, 0, none⟩, cap, rfl, hc, hm, (fun h => by cases h), fun i h => ⟨g, 0, rfl, ?_, ?_⟩⟩
    · rw [Nat.zero_add, ho.cellAt (i * 2) (by omega)]; exact (cellsL_at l i h).1
    · rw [Nat.zero_add, ho.cellAt (i * 2 + 1) (by omega)]; exact (cellsL_at l i h).2
theorem Rd.ext {w w' : World} {v : Value} {l : List (Int × Int)} (h : Rd w v l) (e : Ext w w') : Rd w' v l := by
  obtain ⟨ad, cap, rfl, h1, h2, h3, h4⟩ := h
  refine ⟨ad, cap, rfl, h1, h2, h3, fun i hi => ?_⟩
  obtain ⟨g, o, rfl, c0, c1⟩ := h4 i hi
  exact ⟨g, o, rfl, e.keeps c0, e.keeps c1⟩
theorem rd_nil (w : World) : Rd w (.slice none 0 0) [] := ⟨none, 0, rfl, Nat.le_refl _, Nat.zero_le _, fun _ => rfl, fun i h => by simp at h⟩
/-- the cells of such a slice «as» a list -/
theorem Rd.news {w : World} {ad : Addr} {n cap : Nat} {l : List (Int × Int)} (h : Rd w (.slice (some ad) n cap) l) : ∀ j u, (cellsL l)[j]? = some u → w.cell? (ad.add j) = some u := by
  obtain ⟨ad', cap', e, h1, h2, h3, h4⟩ := h
  simp only [Value.slice.injEq] at e
  obtain ⟨rfl, rfl, rfl⟩ := e
  intro j u hj
  have hlt : j < l.length * 2 := by rw [← cellsL_len]; exact (List.getElem?_eq_some_iff.1 hj).1
  obtain ⟨g, o, e, c0, c1⟩ := h4 (j / 2) (by omega)
  simp only [Option.some.injEq] at e
  subst e
  have hx := cellsL_at l (j / 2) (by omega)
  have hadd : (⟨g, o, none⟩ : Addr).add j = ⟨g, o + j, none⟩ := by unfold Addr.add; split <;> simp_all
  rw [hadd]
  rcases Nat.mod_two_eq_zero_or_one j with m | m
  · rw [show o + j = o + j / 2 * 2 by omega, c0, ← hx.1, show j / 2 * 2 = j by omega, hj]
  · rw [show o + j = o + j / 2 * 2 + 1 by omega, c1, ← hx.2, show j / 2 * 2 + 1 = j by omega, hj]
theorem cellsL_one (l : List (Int × Int)) : ∀ u ∈ cellsL l, u.oneCell' = true := by
  intro u hu
  unfold cellsL at hu
  simp at hu
  obtain ⟨a, b, _, rfl | rfl⟩ := hu <;> rfl
theorem grown_drewN {w w' : World} (h : Grown w w') (n : Nat) : Grown w (w'.drewN n) := h
end Go.Proofs.Ytnckdopphimgoaa
