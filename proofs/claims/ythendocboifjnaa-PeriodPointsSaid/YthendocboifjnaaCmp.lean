/- Compose, in plain lists: the fifteen sample periods, which relations are possible. -/
import Derived.Test.YthendocboifjnaaRel
namespace Go.Proofs.Ythendocboifjnaa
open Go.ChangeShapes Go.WideShapes Go.ChangeAt Go.RowKit

def psL : List (Int × Int) := [(0, 1), (0, 2), (0, 3), (0, 4), (0, 5), (1, 2), (1, 3), (1, 4), (1, 5), (2, 3), (2, 4), (2, 5), (3, 4), (3, 5), (4, 5)]
def psF (k : Nat) : Int := (psL.getD k (0, 1)).1
def psT (k : Nat) : Int := (psL.getD k (0, 1)).2
/-- where the samples that begin at k begin -/
def off (k : Nat) : Nat := k * (11 - k) / 2
theorem off_facts : ∀ k, k < 6 → ∀ m, m < 6 → k < m → off k + (m - k - 1) ≤ 14 ∧ psL.take (off k + (m - k - 1) + 1) = psL.take (off k + (m - k - 1)) ++ [((k : Int), (m : Int))] := by decide
theorem off_next : ∀ k, k < 6 → off k + (6 - k - 1) = off (k + 1) ∧ off k ≤ 15 := by decide
theorem ps_ok : ∀ k, k < 15 → okV (psF k) (psT k) = true := by decide
theorem ps_lt (k : Nat) (h : k < 15) : psF k < psT k := ((okV_iff _ _).1 (ps_ok k h)).2.1
theorem ps_at (k : Nat) (h : k < 15) : (cellsL psL)[k * 2]? = some (.int .i64 (psF k)) ∧ (cellsL psL)[k * 2 + 1]? = some (.int .i64 (psT k)) := by
  have h' : k < psL.length := h
  have e := cellsL_at psL k h'
  have p : psL[k]'h' = psL.getD k (0, 1) := by simp [List.getD, List.getElem?_eq_getElem h']
  rw [p] at e
  exact e

def relI (k m : Nat) : Int := relF (psF k) (psT k) (psF m) (psT m)
theorem relI_bd {k m : Nat} (h : k < 15) (g : m < 15) : 1 ≤ relI k m ∧ relI k m ≤ 13 := relF_bd _ _ _ _ (ps_lt k h) (ps_lt m g)
theorem relI_val {k m : Nat} (h : k < 15) (g : m < 15) : relV (psF k) (psT k) (psF m) (psT m) = relI k m := relV_yes (ps_ok k h) (ps_ok m g)

def C3 (s : Int) (k m n i : Nat) : Bool := (List.range n).any fun c => decide (relI m c = s) && decide (relI k c = (i : Int))
def C2 (r s : Int) (k m i : Nat) : Bool := (List.range m).any fun b => decide (relI k b = r) && C3 s k b 15 i
def C1 (r s : Int) (k i : Nat) : Bool := (List.range k).any fun a => C2 r s a 15 i
/-- the relation i is possible -/
def posB (r s : Int) (i : Nat) : Bool := C1 r s 15 i
theorem any_succ (n : Nat) (f : Nat → Bool) : (List.range (n + 1)).any f = ((List.range n).any f || f n) := by simp [List.range_succ]
theorem C3_zero (s : Int) (k m i : Nat) : C3 s k m 0 i = false := rfl
theorem C2_zero (r s : Int) (k i : Nat) : C2 r s k 0 i = false := rfl
theorem C1_zero (r s : Int) (i : Nat) : C1 r s 0 i = false := rfl
theorem C3_succ (s : Int) (k m n i : Nat) : C3 s k m (n + 1) i = (C3 s k m n i || (decide (relI m n = s) && decide (relI k n = (i : Int)))) := any_succ _ _
theorem C2_succ (r s : Int) (k m i : Nat) : C2 r s k (m + 1) i = (C2 r s k m i || (decide (relI k m = r) && C3 s k m 15 i)) := any_succ _ _
theorem C1_succ (r s : Int) (k i : Nat) : C1 r s (k + 1) i = (C1 r s k i || C2 r s k 15 i) := any_succ _ _
theorem pos_iff (r s : Int) (i : Nat) : posB r s i = true ↔ ∃ a, a < 15 ∧ ∃ b, b < 15 ∧ ∃ c, c < 15 ∧ relI a b = r ∧ relI b c = s ∧ relI a c = (i : Int) := by
  unfold posB C1 C2 C3
  simp only [List.any_eq_true, List.mem_range, Bool.and_eq_true, decide_eq_true_eq]
  constructor
  · rintro ⟨a, ha, b, hb, e1, c, hc, e2, e3⟩
    exact ⟨a, ha, b, hb, c, hc, e1, e2, e3⟩
  · rintro ⟨a, ha, b, hb, c, hc, e1, e2, e3⟩
    exact ⟨a, ha, b, hb, e1, c, hc, e2, e3⟩
theorem pos_zero (r s : Int) : posB r s 0 = false := by
  cases h : posB r s 0
  · rfl
  · obtain ⟨a, ha, b, hb, c, hc, _, _, e⟩ := (pos_iff r s 0).1 h
    have := relI_bd ha hc
    omega

/-- the relations below k that are possible, ascending -/
def compT (r s : Int) (k : Nat) : List Int := ((List.range k).filter (posB r s)).map fun n : Nat => (n : Int)
def compL (r s : Int) : List Int := compT r s 14
theorem compT_yes {r s : Int} {k : Nat} (h : posB r s k = true) : compT r s (k + 1) = compT r s k ++ [(k : Int)] := by simp [compT, List.range_succ, List.filter_append, h]
theorem compT_no {r s : Int} {k : Nat} (h : posB r s k = false) : compT r s (k + 1) = compT r s k := by simp [compT, List.range_succ, List.filter_append, h]
theorem compT_len (r s : Int) (k : Nat) : (compT r s k).length ≤ k := by
  unfold compT
  rw [List.length_map]
  exact Nat.le_trans (List.length_filter_le _ _) (by simp)
theorem compT_one (r s : Int) : compT r s 1 = [] := by rw [show (1 : Nat) = 0 + 1 from rfl, compT_no (pos_zero r s)]; rfl

/-- the cells of a row of ints -/
def cellsI (l : List Int) : List Value := l.map fun n => .int .i64 n
theorem cellsI_append (l m : List Int) : cellsI (l ++ m) = cellsI l ++ cellsI m := by simp [cellsI]
theorem infoI : (Try.prog.info? 3).map (fun i => (i.zero, i.size, i.bytes)) = some (some (.int .i64 0), 1, 8) := by kernel_rfl
/-- a slice of ints -/
def IntsPost (l : List Int) (w : World) (e : Ending) (w' : World) : Prop := ∃ v, e = .returned v ∧ w'.ownsRow 0 3 1 v l.length (cellsI l) ∧ Ext w w'

/-- a world during Compose: the block B holds which relations are possible so far, every other cell of W1 is as it was -/
def St (w W1 : World) (B : Nat) (p : Nat → Bool) (wr : World) : Prop :=
  Ext w wr ∧ W1.heap.size ≤ wr.heap.size ∧ (∀ b o u, b ≠ B → W1.cell? ⟨b, o, none⟩ = some u → wr.cell? ⟨b, o, none⟩ = some u) ∧ (∀ j, j < 14 → wr.cell? ⟨B, j, none⟩ = some (.bool (p j))) ∧ (∀ j, wr.frozen? ⟨B, j, none⟩ = false)
theorem St.grown {w W1 : World} {B : Nat} {p : Nat → Bool} {X Y : World} (h : St w W1 B p X) (hg : Grown X Y) : St w W1 B p Y :=
  ⟨h.1.trans (ext_of_grown hg), Nat.le_trans h.2.1 hg.2.2, fun b o u hb hc => kept hg (h.2.2.1 b o u hb hc), fun j hj => kept hg (h.2.2.2.1 j hj), fun j => (hg.2.1 _).trans (h.2.2.2.2 j)⟩
theorem St.alloc {w W1 : World} {B : Nat} {p : Nat → Bool} {X : World} (h : St w W1 B p X) (c : Array Value) (t : TypeId) : St w W1 B p (X.alloc (.cells c t)) := h.grown ((Grown.refl _).alloc _ _)
theorem St.size {w W1 : World} {B : Nat} {p : Nat → Bool} {X : World} (h : St w W1 B p X) : B < X.heap.size := World.block_lt_of_cell? _ _ (h.2.2.2.1 0 (by omega))
/-- begin anew from the world at hand -/
theorem St.here {w W1 : World} {B : Nat} {p : Nat → Bool} {X : World} (h : St w W1 B p X) : St w X B p X :=
  ⟨h.1, Nat.le_refl _, fun _ _ _ _ e => e, h.2.2.2.1, h.2.2.2.2⟩
theorem St.back {w W1 W2 : World} {B : Nat} {p q : Nat → Bool} {X : World} (h : St w W1 B p W2) (k : St w W2 B q X) : St w W1 B q X :=
  ⟨k.1, Nat.le_trans h.2.1 k.2.1, fun b o u hb e => k.2.2.1 b o u hb (h.2.2.1 b o u hb e), k.2.2.2.1, k.2.2.2.2⟩
theorem St.same {w W1 : World} {B : Nat} {p q : Nat → Bool} {X : World} (h : St w W1 B p X) (e : ∀ j, q j = p j) : St w W1 B q X :=
  ⟨h.1, h.2.1, h.2.2.1, fun j hj => by rw [e]; exact h.2.2.2.1 j hj, h.2.2.2.2⟩
theorem St.set {w W1 : World} {B : Nat} {p q : Nat → Bool} {X : World} {i : Nat} (h : St w W1 B p X) (hi : i < 14) (hB : w.heap.size ≤ B) (e : ∀ j, q j = (p j || decide (i = j))) : St w W1 B q (X.setCell ⟨B, i, none⟩ (.bool true)) := by
  have hk : ∀ b, b ≠ B → (X.setCell ⟨B, i, none⟩ (.bool true)).heap[b]? = X.heap[b]? := fun b hb => Below.heap_setCell _ _ _ _ hb
  refine ⟨h.1.setNew _ _ hB _, by simpa [World.setCell] using h.2.1, fun b o u hb hc => ?_, fun j hj => ?_, fun j => ?_⟩
  · rw [World.cell?_of_block (hk b hb)]; exact h.2.2.1 b o u hb hc
  · have c0 := h.2.2.2.1 i hi
    have cj := h.2.2.2.1 j hj
    rw [e]
    by_cases hij : i = j
    · subst hij; simp [go_sem, c0]
    · simp [go_sem, cj, hij]
  · simp [go_sem, h.2.2.2.2 j]
end Go.Proofs.Ythendocboifjnaa
