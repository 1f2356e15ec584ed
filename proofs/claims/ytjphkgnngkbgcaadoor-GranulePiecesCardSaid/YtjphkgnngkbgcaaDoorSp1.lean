/- Worlds that grow, with new blocks of whatever kind; rows of periods; the pieces of a period in plain arithmetic. -/
import Derived.Test.YtjphkgnngkbgcaaDoorGl5
import Derived.WalkKit
namespace Go.Proofs.YtjphkgnngkbgcaaDoor
open Go.ChangeShapes Go.WideShapes Go.ChangeAt Go.RowKit

/-- what was there stays as it was -/
def Ext (w w' : World) : Prop := w.keptBut w' (fun _ => False) ∧ (∀ a : Addr, a.block < w.heap.size → w'.frozen? a = w.frozen? a) ∧ w.heap.size ≤ w'.heap.size
theorem Ext.refl (w : World) : Ext w w := ⟨World.keptBut_refl _ _, fun _ _ => rfl, Nat.le_refl _⟩
theorem ext_of_grown {w w' : World} (h : Grown w w') : Ext w w' := ⟨h.1, fun a _ => h.2.1 a, h.2.2⟩
theorem Ext.trans {a b c : World} (h : Ext a b) (k : Ext b c) : Ext a c :=
  ⟨World.keptBut_trans h.1 (World.keptBut_mono (fun _ f => f.elim) k.1), fun x hx => (k.2.1 x (Nat.lt_of_lt_of_le hx h.2.2)).trans (h.2.1 x hx), Nat.le_trans h.2.2 k.2.2⟩
theorem ext_of_below {w w' : World} (h : Below w.heap.size w w') : Ext w w' := ⟨h.frame _, fun _ hx => h.frozen hx, h.size⟩
theorem Ext.cell {w w' : World} (h : Ext w w') {b o : Nat} (hb : b < w.heap.size) : w'.cell? ⟨b, o, none⟩ = w.cell? ⟨b, o, none⟩ := World.keptBut.cell h.1 hb (fun f => f)
theorem Ext.keeps {w w' : World} (h : Ext w w') {b o : Nat} {v : Value} (c : w.cell? ⟨b, o, none⟩ = some v) : w'.cell? ⟨b, o, none⟩ = some v := by
  rw [h.cell (World.block_lt_of_cell? _ _ c)]; exact c
theorem Ext.block {w w' : World} (h : Ext w w') {g : Nat} {cur : Array Value} {e : TypeId} {fr : Nat × Nat} (hg : w.heap[g]? = some (.cells cur e fr)) : w'.heap[g]? = some (.cells cur e fr) := by
  have hlt : g < w.heap.size := (Array.getElem?_eq_some_iff.1 hg).1
  have hk := h.1.2.2 g hlt
  rw [hg] at hk
  cases hw : w'.heap[g]? with
  | none => rw [hw] at hk; exact hk
  | some o =>
    rw [hw] at hk
    cases o with
    | cells c' t' fr' =>
      obtain ⟨rfl, rfl, hs, hj⟩ := hk
      have : c' = cur := Array.ext_getElem? (fun j => hj j (fun f => f))
      rw [this]
    | _ => exact hk
theorem Ext.owns {w w' : World} (h : Ext w w') {base : Nat} {e : TypeId} {size : Nat} {v : Value} {n : Nat} {xs : List Value} (ho : w.ownsRow base e size v n xs) : w'.ownsRow base e size v n xs := by
  obtain ⟨h1, h2⟩ := ho
  refine ⟨h1, ?_⟩
  rcases h2 with h2 | ⟨g, cap, cur, hv, hg, hh, r⟩
  · exact Or.inl h2
  · exact Or.inr ⟨g, cap, cur, hv, hg, h.block hh, r⟩
theorem owns_zero {w : World} {base : Nat} {e : TypeId} {size : Nat} {v : Value} {n : Nat} {xs : List Value} (ho : w.ownsRow base e size v n xs) : w.ownsRow 0 e size v n xs := by
  obtain ⟨h1, h2⟩ := ho
  refine ⟨h1, ?_⟩
  rcases h2 with h2 | ⟨g, cap, cur, hv, hg, hh, r⟩
  · exact Or.inl h2
  · exact Or.inr ⟨g, cap, cur, hv, Nat.zero_le _, hh, r⟩
theorem Tab.ext {w w' : World} (h : Tab w) (g : Ext w w') : Tab w' :=
  ⟨Nat.lt_of_lt_of_le h.1 g.2.2, fun i hi => by rw [g.cell h.1]; exact h.2 i hi⟩

/-- the cells of a row of periods -/
def cellsL (l : List (Int × Int)) : List Value := l.flatMap fun p => [.int .i64 p.1, .int .i64 p.2]
theorem cellsL_len (l : List (Int × Int)) : (cellsL l).length = l.length * 2 := by
  induction l with
  | nil => rfl
  | cons p l ih => simp [cellsL] at *; omega
theorem cellsL_append (l m : List (Int × Int)) : cellsL (l ++ m) = cellsL l ++ cellsL m := by simp [cellsL]
theorem cellsL_at (l : List (Int × Int)) (i : Nat) (h : i < l.length) : (cellsL l)[i * 2]? = some (.int .i64 l[i].1) ∧ (cellsL l)[i * 2 + 1]? = some (.int .i64 l[i].2) := by
  induction l generalizing i with
  | nil => simp at h
  | cons p l ih =>
    cases i with
    | zero => exact ⟨rfl, rfl⟩
    | succ i =>
      have := ih i (by simpa using h)
      have e : cellsL (p :: l) = .int .i64 p.1 :: .int .i64 p.2 :: cellsL l := rfl
      rw [e, show (i + 1) * 2 = i * 2 + 1 + 1 by omega]
      simpa using this

/-- the bounds of the pieces -/
noncomputable def cut (k s a b : Int) (m : Nat) : Int := max a (min (Cal.fst k s (Cal.idx k s a + m)) b)
noncomputable def pcs (k s a b : Int) (n : Nat) : List (Int × Int) := (List.range n).map fun m => (cut k s a b m, cut k s a b (m + 1))
noncomputable def cnt (k s a b : Int) : Nat := (Cal.idx k s (b - 1) - Cal.idx k s a + 1).toNat
def okP (k s a b : Int) : Bool := Cal.validB k s && decide (0 ≤ a) && decide (a < b) && decide (b ≤ 1000000)
noncomputable def pl (k s a b : Int) : List (Int × Int) := if okP k s a b = true then pcs k s a b (cnt k s a b) else []
theorem okP_iff (k s a b : Int) : okP k s a b = true ↔ Cal.validB k s = true ∧ 0 ≤ a ∧ a < b ∧ b ≤ 1000000 := by
  simp [okP, and_assoc]
theorem pcs_len (k s a b : Int) (n : Nat) : (pcs k s a b n).length = n := by simp [pcs]
theorem pcs_succ (k s a b : Int) (n : Nat) : pcs k s a b (n + 1) = pcs k s a b n ++ [(cut k s a b n, cut k s a b (n + 1))] := by
  simp [pcs, List.range_succ]
theorem pcs_cells_succ (k s a b : Int) (n : Nat) : cellsL (pcs k s a b (n + 1)) = cellsL (pcs k s a b n) ++ [.int .i64 (cut k s a b n), .int .i64 (cut k s a b (n + 1))] := by
  rw [pcs_succ, cellsL_append]; rfl

/-- what the pieces are -/
theorem cnt_facts {k s a b : Int} (hv : Cal.validB k s = true) (h0 : 0 ≤ a) (h1 : a < b) (h2 : b ≤ 1000000) :
    1 ≤ cnt k s a b ∧ (cnt k s a b : Int) = Cal.idx k s (b - 1) - Cal.idx k s a + 1 ∧ (cnt k s a b : Int) ≤ b - a := by
  have i0 := idx_bd hv h0 (by omega)
  have i1 := idx_bd hv (n := b - 1) (by omega) (by omega)
  have hm := Cal.idx_mono hv h0 (show a ≤ b - 1 by omega) (by omega) i0.1
  refine ⟨by unfold cnt; omega, by unfold cnt; omega, ?_⟩
  have key : ∀ j : Nat, a + j < 1000000 → Cal.idx k s (a + j) ≤ Cal.idx k s a + j := by
    intro j
    induction j with
    | zero => intro _; simp
    | succ j ih =>
      intro h
      have h3 := ih (by omega)
      have h4 := Cal.idx_succ hv (n := a + j) (by omega) (by omega)
      rw [show a + ((j + 1 : Nat) : Int) = a + j + 1 by omega]
      omega
  have := key (b - 1 - a).toNat (by omega)
  rw [show a + ((b - 1 - a).toNat : Int) = b - 1 by omega] at this
  unfold cnt
  omega
/-- the m-th bound: the first day of granule idx a + m, between a and b -/
theorem cut_facts {k s a b : Int} (hv : Cal.validB k s = true) (h0 : 0 ≤ a) (h1 : a < b) (h2 : b ≤ 1000000) (m : Nat) :
    (m = 0 → cut k s a b m = a ∧ Cal.fst k s (Cal.idx k s a + m) ≤ a) ∧
    (1 ≤ m → m < cnt k s a b → cut k s a b m = Cal.fst k s (Cal.idx k s a + m) ∧ a < cut k s a b m ∧ cut k s a b m < b) ∧
    (m = cnt k s a b → cut k s a b m = b ∧ b ≤ Cal.fst k s (Cal.idx k s a + m)) := by
  obtain ⟨c1, c2, c3⟩ := cnt_facts hv h0 h1 h2
  have i0 := idx_bd hv h0 (by omega)
  have i1 := idx_bd hv (n := b - 1) (by omega) (by omega)
  have ga := Cal.fst_gal hv (i := Cal.idx k s a + m) (n := a) (by omega) h0 (by omega)
  have gb := Cal.fst_gal hv (i := Cal.idx k s a + m) (n := b - 1) (by omega) (by omega) (by omega)
  unfold cut
  refine ⟨fun e => ?_, fun e1 e2 => ?_, fun e => ?_⟩
  · subst e
    have := ga.1 (by omega)
    omega
  · have hb := gb.1 (by omega)
    have ha : ¬ Cal.fst k s (Cal.idx k s a + m) ≤ a := fun e => by have := ga.2 e; omega
    omega
  · have hb : ¬ Cal.fst k s (Cal.idx k s a + m) ≤ b - 1 := fun e' => by have := gb.2 e'; omega
    omega
theorem cut_mid {k s a b : Int} (hv : Cal.validB k s = true) (h0 : 0 ≤ a) (h1 : a < b) (h2 : b ≤ 1000000) (m : Nat) (hm : m < cnt k s a b) :
    a ≤ cut k s a b m ∧ cut k s a b m < cut k s a b (m + 1) ∧ cut k s a b (m + 1) ≤ b ∧ Cal.idx k s (cut k s a b m) = Cal.idx k s a + m ∧ Cal.idx k s (cut k s a b (m + 1) - 1) = Cal.idx k s a + m ∧
      Cal.fst k s (Cal.idx k s a + m) < 1000000 ∧ Cal.fst k s (Cal.idx k s a + m) ≤ cut k s a b m ∧ cut k s a b m = max (Cal.fst k s (Cal.idx k s a + m)) a ∧ cut k s a b (m + 1) = min (Cal.fst k s (Cal.idx k s a + m + 1)) b := by
  obtain ⟨c1, c2, c3⟩ := cnt_facts hv h0 h1 h2
  have i0 := idx_bd hv h0 (by omega)
  have A := cut_facts hv h0 h1 h2 m
  have B := cut_facts hv h0 h1 h2 (m + 1)
  have hf0 := Cal.fst_bd hv (i := Cal.idx k s a + m) (by omega)
  rw [show Cal.idx k s a + ((m + 1 : Nat) : Int) = Cal.idx k s a + m + 1 by omega] at B
  have hcm : a ≤ cut k s a b m ∧ cut k s a b m < b ∧ Cal.fst k s (Cal.idx k s a + m) ≤ cut k s a b m ∧ cut k s a b m = max (Cal.fst k s (Cal.idx k s a + m)) a := by
    by_cases e : m = 0
    · obtain ⟨x, y⟩ := A.1 e; omega
    · obtain ⟨x, y, z⟩ := A.2.1 (by omega) hm; omega
  have hlt := Cal.fst_lt hv (i := Cal.idx k s a + m) (by omega) (by omega)
  have hga := Cal.fst_gal hv (i := Cal.idx k s a + m + 1) (n := a) (by omega) h0 (by omega)
  have hna : ¬ Cal.fst k s (Cal.idx k s a + m + 1) ≤ a := fun e => by have := hga.2 e; omega
  have hcn : cut k s a b m < cut k s a b (m + 1) ∧ cut k s a b (m + 1) ≤ b ∧ cut k s a b (m + 1) ≤ Cal.fst k s (Cal.idx k s a + m + 1) ∧ cut k s a b (m + 1) = min (Cal.fst k s (Cal.idx k s a + m + 1)) b := by
    by_cases e : m + 1 = cnt k s a b
    · obtain ⟨x, y⟩ := B.2.2 e; omega
    · obtain ⟨x, y, z⟩ := B.2.1 (by omega) (by omega); omega
  have key : ∀ n, Cal.fst k s (Cal.idx k s a + m) ≤ n → n < Cal.fst k s (Cal.idx k s a + m + 1) → 0 ≤ n → n < 1000000 → Cal.idx k s n = Cal.idx k s a + m := fun n n1 n2 n3 n4 => by
    have g1 := (Cal.fst_gal hv (i := Cal.idx k s a + m) (n := n) (by omega) n3 n4).2 n1
    have g2 : ¬ Cal.idx k s a + m + 1 ≤ Cal.idx k s n := fun e => by have := (Cal.fst_gal hv (i := Cal.idx k s a + m + 1) (n := n) (by omega) n3 n4).1 e; omega
    omega
  refine ⟨hcm.1, hcn.1, hcn.2.1, key _ hcm.2.2.1 (by omega) (by omega) (by omega), key _ (by omega) (by omega) (by omega) (by omega), by omega, hcm.2.2.1, hcm.2.2.2, hcn.2.2.2⟩
end Go.Proofs.YtjphkgnngkbgcaaDoor
