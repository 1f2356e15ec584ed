/- A slice that the code writes out. -/
import Derived.Test.YtnckdopphimgoaaZz01
import Derived.Test.YtnckdopphimgoaaZz03
namespace Go.Proofs.Ytnckdopphimgoaa
open Go.ChangeShapes Go.WideShapes Go.ChangeAt Go.RowKit

theorem al_g (w : World) (c : Array Value) (t : TypeId) (j : Nat) (v : Value) (h : c[j]? = some v) : (w.alloc (.cells c t)).cell? ⟨w.heap.size, j, none⟩ = some v := al_c w c t j v h
/-- a slice that the code writes out -/
theorem rd_litG {α : Type} [Enc α] (w : World) (l : List α) (c : Array Value) (t : TypeId) (n k : Nat) (hn : n = w.heap.size) (hk : k = l.length) (hl : l.length ≤ 1000) (hc : c.toList = cellsG l) : RdG (w.alloc (.cells c t)) (.slice (some ⟨n, 0, none⟩) k k) l := by
  subst hn hk
  refine ⟨some ⟨w.heap.size, 0, none⟩, l.length, rfl, Nat.le_refl _, by unfold maxLen; omega, fun h => (by cases h), fun i hi => ⟨_, _, rfl, fun j u hu => ?_⟩⟩
  refine al_g w c t _ u ?_
  have hj : j < Enc.sz α := by have := (List.getElem?_eq_some_iff.1 hu).1; rw [Enc.len] at this; exact this
  have e := cellsG_at l i j hi hj
  rw [hu] at e
  rw [← Array.getElem?_toList, hc, Nat.zero_add]
  exact e
end Go.Proofs.Ytnckdopphimgoaa
/- Contracts of the reference's Valid. -/
namespace Go.Proofs.Ytnckdopphimgoaa
open Go.ChangeShapes Go.WideShapes Go.ChangeAt Go.RowKit

def okV (a b : Int) : Bool := decide (0 ≤ a ∧ a < b ∧ b ≤ 1099511627776)
def okD (a b : Int) : Bool := decide (0 ≤ a ∧ a < b ∧ b ≤ 1000000)
end Go.Proofs.Ytnckdopphimgoaa
/- Rows of periods. -/
namespace Go.Proofs.Ytnckdopphimgoaa
open Go.ChangeShapes Go.WideShapes Go.ChangeAt Go.RowKit

/-- the cells of a row of periods -/
def cellsL (l : List (Int × Int)) : List Value := l.flatMap fun p => [.int .i64 p.1, .int .i64 p.2]
theorem cellsL_len (l : List (Int × Int)) : (cellsL l).length = l.length * 2 := by
  induction l with
  | nil => rfl
  | cons p l ih => simp [cellsL] at *; omega
theorem cellsL_append (l m : List (Int × Int)) : cellsL (l ++ m) = cellsL l ++ cellsL m := by simp [cellsL]
theorem cellsL_at (l : List (Int × Int)) (i : Nat) (h : i < l.length) : (cellsL l)[i * 2]? = some (.int .i64 l[i].1) ∧ (cellsL l)[i * 2 + 1]? = some (.int .i64 l[i].2) := by
  induction l generalizing i with
  | nil => simp at h
  | cons p l ih =>
    cases i with
    | zero => exact ⟨rfl, rfl⟩
    | succ i =>
      have := ih i (by simpa using h)
      have e : cellsL (p :: l) = .int .i64 p.1 :: .int .i64 p.2 :: cellsL l := rfl
      rw [e, show (i + 1) * 2 = i * 2 + 1 + 1 by omega]
      simpa using this

theorem infoP : (Try.prog.info? 28).map (fun i => (i.zero, i.size, i.bytes)) = some (some (.agg #[.int .i64 0, .int .i64 0]), 2, 16) := by kernel_rfl

/-- a slice of periods -/
def SplitPost (l : List (Int × Int)) (w : World) (e : Ending) (w' : World) : Prop := ∃ v, e = .returned v ∧ w'.ownsRow 0 28 2 v l.length (cellsL l) ∧ Ext w w'

theorem news2 (Y : World) (x y : Value) (t : TypeId) (n : Nat) (h : Y.heap.size = n) : ∀ j u, [x, y][j]? = some u → (Y.alloc (.cells #[x, y] t)).cell? ((⟨n, 0, none⟩ : Addr).add j) = some u := by
  intro j u hj
  subst h
  match j, hj with
  | 0, hj => simp at hj; subst hj; exact al0 _ _ _ _
  | 1, hj => simp at hj; subst hj; exact al1 _ _ _ _
theorem one2 (x y : Int) : ∀ u ∈ [Value.int .i64 x, Value.int .i64 y], u.oneCell' = true := by
  intro u hu
  simp at hu
  rcases hu with rfl | rfl <;> rfl


/-- a row of periods, «as» a reader sees it -/
theorem owns_shape {w : World} {base : Nat} {e : TypeId} {v : Value} {l : List (Int × Int)} (ho : w.ownsRow base e 2 v l.length (cellsL l)) :
    ∃ ad cap, v = .slice ad l.length cap ∧ l.length ≤ maxLen ∧ ∀ (i : Nat) (h : i < l.length), ∃ g, ad = some ⟨g, 0, none⟩ ∧ w.cell? ⟨g, i * 2, none⟩ = some (.int .i64 l[i].1) ∧ w.cell? ⟨g, i * 2 + 1, none⟩ = some (.int .i64 l[i].2) := by
  rcases ho.2 with ⟨rfl, hn⟩ | ⟨g, cap, cur, rfl, hb, hg, hc, hm, hs, ht⟩
  · exact ⟨none, 0, by rw [hn], by rw [hn]; exact Nat.zero_le _, fun i h => by omega⟩
  · refine ⟨some ⟨g, 0, none⟩, cap, rfl, Nat.le_trans hc hm, fun i h => ⟨g, rfl, ?_, ?_⟩⟩
    · rw [ho.cellAt (i * 2) (by omega)]; exact (cellsL_at l i h).1
    · rw [ho.cellAt (i * 2 + 1) (by omega)]; exact (cellsL_at l i h).2

/-- behind calls that leave what was there -/
theorem heldX {N : Nat} {args : Array Value} {w : World} {Q : Ending → World → Prop} (W0 : World) (h : Calls Try.prog N args w fun e w' => Q e w' ∧ Ext w w') (hG : Ext W0 w) :
    Calls Try.prog N args w fun e w' => Q e w' ∧ (∀ b o, b < W0.heap.size → w'.cell? ⟨b, o, none⟩ = W0.cell? ⟨b, o, none⟩) ∧ Ext w w' ∧ Ext W0 w' :=
  h.mono fun _ _ ⟨he, hg⟩ => ⟨he, fun _ _ hb => (hG.trans hg).cell hb, hg, hG.trans hg⟩
/-- the boxes of two periods, behind two calls that grow the world -/
theorem boxes {w w1 w2 : World} {a b c d : Value} {t u : TypeId} (hg : Grown ((w.alloc (.cells #[a, b] t)).alloc (.cells #[c, d] u)) w1) (hg2 : Grown w1 w2) :
    w2.cell? ⟨w.heap.size, 0, none⟩ = some a ∧ w2.cell? ⟨w.heap.size, 1, none⟩ = some b ∧ w2.cell? ⟨w.heap.size + 1, 0, none⟩ = some c ∧ w2.cell? ⟨w.heap.size + 1, 1, none⟩ = some d := by
  refine ⟨kept hg2 (kept hg (kept ((Grown.refl _).alloc _ _) (al0 _ _ _ _))), kept hg2 (kept hg (kept ((Grown.refl _).alloc _ _) (al1 _ _ _ _))), ?_, ?_⟩
  · rw [← alsz w (.cells #[a, b] t)]; exact kept hg2 (kept hg (al0 _ _ _ _))
  · rw [← alsz w (.cells #[a, b] t)]; exact kept hg2 (kept hg (al1 _ _ _ _))
end Go.Proofs.Ytnckdopphimgoaa
/- The relations of two periods, in plain arithmetic. -/
namespace Go.Proofs.Ytnckdopphimgoaa

/-- the relation of [a, b) and [c, d), by their ends -/
def relF (a b c d : Int) : Int :=
  if b < c then 1 else if b = c then 2 else if d < a then 13 else if d = a then 12 else if a = c ∧ b = d then 7 else if a = c ∧ b < d then 6 else if a = c then 8
  else if b = d ∧ a < c then 4 else if b = d then 10 else if a < c ∧ d < b then 5 else if c < a ∧ b < d then 9 else if a < c then 3 else 11
/-- the seven relations that are defined by a condition -/
def defF (a b c d : Int) : Int :=
  if b < c then 1 else if b = c then 2 else if a < c ∧ c < b ∧ b < d then 3 else if a < c ∧ b = d then 4 else if a < c ∧ d < b then 5 else if a = c ∧ b < d then 6 else if a = c ∧ b = d then 7 else 0
def invF (r : Int) : Int := if r < 1 ∨ 13 < r then 0 else 14 - r
def relV (a b c d : Int) : Int := if okV a b = true ∧ okV c d = true then relF a b c d else 0
def incB (a b t : Int) : Bool := okV a b && decide (a ≤ t ∧ t < b)

theorem okV_iff (a b : Int) : okV a b = true ↔ 0 ≤ a ∧ a < b ∧ b ≤ 1099511627776 := by simp [okV]
/-- the thirteen arrangements of two periods, with their relation -/
def Arr13 (a b c d r : Int) : Prop :=
  (b < c ∧ r = 1) ∨ (b = c ∧ r = 2) ∨ (a < c ∧ c < b ∧ b < d ∧ r = 3) ∨ (a < c ∧ b = d ∧ r = 4) ∨ (a < c ∧ d < b ∧ r = 5) ∨ (a = c ∧ b < d ∧ r = 6) ∨ (a = c ∧ b = d ∧ r = 7) ∨
  (a = c ∧ d < b ∧ r = 8) ∨ (c < a ∧ b < d ∧ r = 9) ∨ (c < a ∧ b = d ∧ r = 10) ∨ (c < a ∧ a < d ∧ d < b ∧ r = 11) ∨ (d = a ∧ r = 12) ∨ (d < a ∧ r = 13)
theorem arr_rel {a b c d r : Int} (h : a < b) (k : c < d) (x : Arr13 a b c d r) : relF a b c d = r := by
  unfold Arr13 at x
  unfold relF
  rcases x with x | x | x | x | x | x | x | x | x | x | x | x | x
  all_goals (repeat (first | rw [if_neg (by omega)] | rw [if_pos (by omega)])) <;> omega
theorem arr_of (a b c d : Int) (h : a < b) (k : c < d) : Arr13 a b c d (relF a b c d) := by
  have key : ∀ r, Arr13 a b c d r → Arr13 a b c d (relF a b c d) := fun r x => by rw [arr_rel h k x]; exact x
  rcases Int.lt_trichotomy b c with e1 | e1 | e1
  · exact key 1 (by unfold Arr13; simp; omega)
  · exact key 2 (by unfold Arr13; simp; omega)
  · rcases Int.lt_trichotomy d a with e2 | e2 | e2
    · exact key 13 (by unfold Arr13; simp; omega)
    · exact key 12 (by unfold Arr13; simp; omega)
    · rcases Int.lt_trichotomy a c with e3 | e3 | e3 <;> rcases Int.lt_trichotomy b d with e4 | e4 | e4
      · exact key 3 (by unfold Arr13; simp; omega)
      · exact key 4 (by unfold Arr13; simp; omega)
      · exact key 5 (by unfold Arr13; simp; omega)
      · exact key 6 (by unfold Arr13; simp; omega)
      · exact key 7 (by unfold Arr13; simp; omega)
      · exact key 8 (by unfold Arr13; simp; omega)
      · exact key 9 (by unfold Arr13; simp; omega)
      · exact key 10 (by unfold Arr13; simp; omega)
      · exact key 11 (by unfold Arr13; simp; omega)
theorem arr_inv {a b c d r : Int} (x : Arr13 a b c d r) : Arr13 c d a b (14 - r) := by
  unfold Arr13 at x
  rcases x with ⟨x, rfl⟩ | ⟨x, rfl⟩ | ⟨x, y, z, rfl⟩ | ⟨x, y, rfl⟩ | ⟨x, y, rfl⟩ | ⟨x, y, rfl⟩ | ⟨x, y, rfl⟩ | ⟨x, y, rfl⟩ | ⟨x, y, rfl⟩ | ⟨x, y, rfl⟩ | ⟨x, y, z, rfl⟩ | ⟨x, rfl⟩ | ⟨x, rfl⟩
  all_goals
    unfold Arr13
    simp
    omega
theorem relF_bd (a b c d : Int) (h : a < b) (k : c < d) : 1 ≤ relF a b c d ∧ relF a b c d ≤ 13 := by
  have x := arr_of a b c d h k
  unfold Arr13 at x
  rcases x with x | x | x | x | x | x | x | x | x | x | x | x | x <;> omega
theorem relF_eq (a b c d : Int) (h : a < b) (k : c < d) : relF a b c d = 7 ↔ a = c ∧ b = d := by
  have x := arr_of a b c d h k
  unfold Arr13 at x
  rcases x with x | x | x | x | x | x | x | x | x | x | x | x | x <;> omega
theorem relF_inv (a b c d : Int) (h : a < b) (k : c < d) : relF c d a b = 14 - relF a b c d := arr_rel k h (arr_inv (arr_of a b c d h k))
theorem def_rel (a b c d : Int) (h : a < b) (k : c < d) : (defF a b c d ≠ 0 → relF a b c d = defF a b c d) ∧ (defF a b c d = 0 → relF a b c d = invF (defF c d a b)) := by
  have e := arr_of a b c d h k
  unfold Arr13 at e
  generalize relF a b c d = r at e ⊢
  generalize hx : defF a b c d = x
  generalize hy : defF c d a b = y
  unfold defF at hx hy
  rcases e with e | e | e | e | e | e | e | e | e | e | e | e | e
  all_goals
    (repeat (first | rw [if_neg (by omega)] at hx | rw [if_pos (by omega)] at hx))
    (repeat (first | rw [if_neg (by omega)] at hy | rw [if_pos (by omega)] at hy))
    unfold invF
    split <;> omega
theorem relV_yes {a b c d : Int} (h : okV a b = true) (k : okV c d = true) : relV a b c d = relF a b c d := by simp [relV, h, k]
theorem relV_no {a b c d : Int} (h : okV a b = false ∨ okV c d = false) : relV a b c d = 0 := by rcases h with h | h <;> simp [relV, h]
theorem inv_inv {r : Int} (h : 1 ≤ r) (k : r ≤ 13) : invF r = 14 - r ∧ invF (invF r) = r := by unfold invF; (repeat' split) <;> omega
end Go.Proofs.Ytnckdopphimgoaa
