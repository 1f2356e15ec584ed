/- Rows of periods. -/
import Derived.Test.YtckknhocmbhmhaaPV
namespace Go.Proofs.Ytckknhocmbhmhaa
open Go.ChangeShapes Go.WideShapes Go.ChangeAt Go.RowKit

/-- the cells of a row of periods -/
def cellsL (l : List (Int × Int)) : List Value := l.flatMap fun p => [.int .i64 p.1, .int .i64 p.2]
theorem cellsL_len (l : List (Int × Int)) : (cellsL l).length = l.length * 2 := by
  induction l with
  | nil => rfl
  | cons p l ih => simp [cellsL] at *; omega
theorem cellsL_append (l m : List (Int × Int)) : cellsL (l ++ m) = cellsL l ++ cellsL m := by simp [cellsL]
theorem cellsL_at (l : List (Int × Int)) (i : Nat) (h : i < l.length) : (cellsL l)[i * 2]? = some (.int .i64 l[i].1) ∧ (cellsL l)[i * 2 + 1]? = some (.int .i64 l[i].2) := by
  induction l generalizing i with
  | nil => simp at h
  | cons p l ih =>
    cases i with
    | zero => exact ⟨rfl, rfl⟩
    | succ i =>
      have := ih i (by simpa using h)
      have e : cellsL (p :: l) = .int .i64 p.1 :: .int .i64 p.2 :: cellsL l := rfl
      rw [e, show (i + 1) * 2 = i * 2 + 1 + 1 by omega]
      simpa using this

theorem infoP : (Try.prog.info? 30).map (fun i => (i.zero, i.size, i.bytes)) = some (some (.agg #[.int .i64 0, .int .i64 0]), 2, 16) := by kernel_rfl
theorem ext_grownBy {w X w5 : World} {row : Option Nat} (h : Ext w X) (hg : X.grownBy w5 row) (hr : ∀ k, row = some k → w.heap.size ≤ k) : Ext w w5 := by
  have hb : ∀ i, i < w.heap.size → w5.heap[i]? = X.heap[i]? := fun i hi => hg.block i (Nat.lt_of_lt_of_le hi h.2.2) (fun e => by have := hr i e.symm; omega)
  refine ⟨⟨hg.os.trans h.1.1, hg.output.trans h.1.2.1, fun i hi => ?_⟩, fun a ha => (World.frozen?_of_block (hb _ ha)).trans (h.2.1 a ha), Nat.le_trans h.2.2 hg.size⟩
  rw [hb i hi]
  exact h.1.2.2 i hi

/-- a slice of periods -/
def SplitPost (l : List (Int × Int)) (w : World) (e : Ending) (w' : World) : Prop := ∃ v, e = .returned v ∧ w'.ownsRow 0 30 2 v l.length (cellsL l) ∧ Ext w w'

theorem news2 (Y : World) (x y : Value) (t : TypeId) (n : Nat) (h : Y.heap.size = n) : ∀ j u, [x, y][j]? = some u → (Y.alloc (.cells #[x, y] t)).cell? ((⟨n, 0, none⟩ : Addr).add j) = some u := by
  intro j u hj
  subst h
  match j, hj with
  | 0, hj => simp at hj; subst hj; exact al0 _ _ _ _
  | 1, hj => simp at hj; subst hj; exact al1 _ _ _ _
theorem one2 (x y : Int) : ∀ u ∈ [Value.int .i64 x, Value.int .i64 y], u.oneCell' = true := by
  intro u hu
  simp at hu
  rcases hu with rfl | rfl <;> rfl

def lenOf : Value → Nat | .slice _ n _ => n | _ => 0
theorem owns_len {w : World} {base : Nat} {e : TypeId} {size : Nat} {v : Value} {n : Nat} {xs : List Value} (ho : w.ownsRow base e size v n xs) : lenOf v = n := by
  rcases ho.2 with ⟨rfl, rfl⟩ | ⟨g, cap, cur, rfl, _⟩ <;> rfl

theorem grow_cell {X Y : World} {row : Option Nat} (hg : X.grownBy Y row) {b o : Nat} {v : Value} (h : X.cell? ⟨b, o, none⟩ = some v) (hne : ∀ k, row = some k → k ≠ b) : Y.cell? ⟨b, o, none⟩ = some v := by
  rw [World.cell?_of_block (hg.block b (World.block_lt_of_cell? _ _ h) (fun e => hne b e.symm rfl))]; exact h
theorem grow_frozen {X Y : World} {row : Option Nat} (hg : X.grownBy Y row) {b o : Nat} (hb : b < X.heap.size) (h : X.frozen? ⟨b, o, none⟩ = false) (hne : ∀ k, row = some k → k ≠ b) : Y.frozen? ⟨b, o, none⟩ = false := by
  rw [World.frozen?_of_block (hg.block b hb (fun e => hne b e.symm rfl))]; exact h
theorem al2_frozen (w : World) (c d : Array Value) (t u : TypeId) (a : Addr) : ((w.alloc (.cells c t)).alloc (.cells d u)).frozen? a = w.frozen? a := by
  rw [frozen?_alloc_cells, frozen?_alloc_cells]
theorem al2_grown (w : World) (c d : Array Value) (t u : TypeId) : Grown w ((w.alloc (.cells c t)).alloc (.cells d u)) := ((Grown.refl _).alloc _ _).alloc _ _

/-- a row of periods, as a reader sees it -/
theorem owns_shape {w : World} {base : Nat} {e : TypeId} {v : Value} {l : List (Int × Int)} (ho : w.ownsRow base e 2 v l.length (cellsL l)) :
    ∃ ad cap, v = .slice ad l.length cap ∧ l.length ≤ maxLen ∧ ∀ (i : Nat) (h : i < l.length), ∃ g, ad = some ⟨g, 0, none⟩ ∧ w.cell? ⟨g, i * 2, none⟩ = some (.int .i64 l[i].1) ∧ w.cell? ⟨g, i * 2 + 1, none⟩ = some (.int .i64 l[i].2) := by
  rcases ho.2 with ⟨rfl, hn⟩ | ⟨g, cap, cur, rfl, hb, hg, hc, hm, hs, ht⟩
  · exact ⟨none, 0, by rw [hn], by rw [hn]; exact Nat.zero_le _, fun i h => by omega⟩
  · refine ⟨some ⟨g, 0, none⟩, cap, rfl, Nat.le_trans hc hm, fun i h => ⟨g, rfl, ?_, ?_⟩⟩
    · rw [ho.cellAt (i * 2) (by omega)]; exact (cellsL_at l i h).1
    · rw [ho.cellAt (i * 2 + 1) (by omega)]; exact (cellsL_at l i h).2

/-- behind calls that leave what was there -/
theorem heldX {N : Nat} {args : Array Value} {w : World} {Q : Ending → World → Prop} (W0 : World) (h : Calls Try.prog N args w fun e w' => Q e w' ∧ Ext w w') (hG : Ext W0 w) :
    Calls Try.prog N args w fun e w' => Q e w' ∧ (∀ b o, b < W0.heap.size → w'.cell? ⟨b, o, none⟩ = W0.cell? ⟨b, o, none⟩) ∧ Ext w w' ∧ Ext W0 w' :=
  h.mono fun _ _ ⟨he, hg⟩ => ⟨he, fun _ _ hb => (hG.trans hg).cell hb, hg, hG.trans hg⟩
/-- the boxes of two periods, behind two calls that grow the world -/
theorem boxes {w w1 w2 : World} {a b c d : Value} {t u : TypeId} (hg : Grown ((w.alloc (.cells #[a, b] t)).alloc (.cells #[c, d] u)) w1) (hg2 : Grown w1 w2) :
    w2.cell? ⟨w.heap.size, 0, none⟩ = some a ∧ w2.cell? ⟨w.heap.size, 1, none⟩ = some b ∧ w2.cell? ⟨w.heap.size + 1, 0, none⟩ = some c ∧ w2.cell? ⟨w.heap.size + 1, 1, none⟩ = some d := by
  refine ⟨kept hg2 (kept hg (kept ((Grown.refl _).alloc _ _) (al0 _ _ _ _))), kept hg2 (kept hg (kept ((Grown.refl _).alloc _ _) (al1 _ _ _ _))), ?_, ?_⟩
  · rw [← alsz w (.cells #[a, b] t)]; exact kept hg2 (kept hg (al0 _ _ _ _))
  · rw [← alsz w (.cells #[a, b] t)]; exact kept hg2 (kept hg (al1 _ _ _ _))
end Go.Proofs.Ytckknhocmbhmhaa
