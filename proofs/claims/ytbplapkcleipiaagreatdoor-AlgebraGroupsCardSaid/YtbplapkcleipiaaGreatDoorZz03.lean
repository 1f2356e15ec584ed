/- Periods «as» values; what a world holds behind a call that leaves what was there «as» it was. -/
import Derived.Deep.RegionHeld3
import Derived.IntWalk
import Derived.Sort.Grow
import Derived.Deep.Draws
import Derived.Laws.OwnMore
import Derived.OwnWalk
import Derived.Deep.QuietTactic
import Derived.BigQuiet
import Derived.ProofKit
import Derived.OpenShut
import Derived.WideKeyArgs
import Derived.ChangeArms
import Derived.Test.YtbplapkcleipiaaGreatDoorZz02
namespace Go.Proofs.YtbplapkcleipiaaGreatDoor
open Go.ChangeShapes Go.WideShapes Go.ChangeAt Go.RowKit

abbrev pv (a b : Int) : Value := .agg #[.int .i64 a, .int .i64 b]
theorem gcell {W w1 : World} (hg : Grown W w1) : (∀ b o, b < W.heap.size → w1.cell? ⟨b, o, none⟩ = W.cell? ⟨b, o, none⟩) ∧ (∀ a, w1.frozen? a = W.frozen? a) :=
  ⟨fun _ _ h => World.keptBut.cell hg.1 h (fun f => f), hg.2.1⟩

/-- a call that only grows the world leaves what an elder world held -/
theorem heldW {N : Nat} {args : Array Value} {w : World} {R : Ending} (W0 : World) (h : Calls Tryz.prog N args w fun e w' => e = R ∧ Grown w w') (hG : Grown W0 w) :
    Calls Tryz.prog N args w fun e w' => e = R ∧ (∀ b o, b < W0.heap.size → w'.cell? ⟨b, o, none⟩ = W0.cell? ⟨b, o, none⟩) ∧ (∀ a, w'.frozen? a = W0.frozen? a) ∧ Grown W0 w' :=
  h.mono fun _ _ ⟨he, hg⟩ => ⟨he, (gcell (grown_trans hG hg)).1, (gcell (grown_trans hG hg)).2, grown_trans hG hg⟩
theorem frozen_new (w : World) (b o : Nat) (h : w.heap.size ≤ b) : w.frozen? ⟨b, o, none⟩ = false := by
  simp [World.frozen?, Array.getElem?_eq_none h]
theorem al0 (w : World) (a b : Value) (t : TypeId) : (w.alloc (.cells #[a, b] t)).cell? ⟨w.heap.size, 0, none⟩ = some a := by rw [World.cell?, (MapKept.heap_alloc w _).1]; rfl
theorem al1 (w : World) (a b : Value) (t : TypeId) : (w.alloc (.cells #[a, b] t)).cell? ⟨w.heap.size, 1, none⟩ = some b := by rw [World.cell?, (MapKept.heap_alloc w _).1]; rfl
theorem alsz (w : World) (o : Obj) : (w.alloc o).heap.size = w.heap.size + 1 := by simp
theorem kept {w w' : World} (hg : Grown w w') {b o : Nat} {v : Value} (h : w.cell? ⟨b, o, none⟩ = some v) : w'.cell? ⟨b, o, none⟩ = some v := by
  rw [(gcell hg).1 _ _ (World.block_lt_of_cell? _ _ h)]; exact h

theorem Ext.alloc {w X : World} (h : Ext w X) (c : Array Value) (t : TypeId) : Ext w (X.alloc (.cells c t)) := h.trans (ext_of_grown ((Grown.refl _).alloc _ _))
theorem Ext.setNew {w X : World} (h : Ext w X) (b o : Nat) (hb : w.heap.size ≤ b) (v : Value) : Ext w (X.setCell ⟨b, o, none⟩ v) := by
  have hk : ∀ i, i < w.heap.size → (X.setCell ⟨b, o, none⟩ v).heap[i]? = X.heap[i]? := fun i hi => Below.heap_setCell _ _ _ _ (by show i ≠ b; omega)
  refine ⟨⟨h.1.1, h.1.2.1, fun i hi => ?_⟩, fun a ha => (World.frozen?_of_block (hk _ ha)).trans (h.2.1 a ha), by simpa [World.setCell] using h.2.2⟩
  rw [hk i hi]
  exact h.1.2.2 i hi
/-- the same with new blocks of whatever kind; S: what the elder world held -/
theorem heldE {N : Nat} {args : Array Value} {w : World} {R : Ending} (W0 : World) (h : Calls Tryz.prog N args w fun e w' => e = R ∧ Ext w w') (hG : Ext W0 w) :
    Calls Tryz.prog N args w fun e w' => e = R ∧ (∀ b o, b < W0.heap.size → w'.cell? ⟨b, o, none⟩ = W0.cell? ⟨b, o, none⟩) ∧ Ext W0 w' :=
  h.mono fun _ _ ⟨he, hg⟩ => ⟨he, fun _ _ hb => (hG.trans hg).cell hb, hG.trans hg⟩
theorem Ext.drew {w X : World} (h : Ext w X) : Ext w X.drew := ⟨h.1, h.2.1, h.2.2⟩
end Go.Proofs.YtbplapkcleipiaaGreatDoor
/- Worlds that only grow by new blocks and draws. -/
namespace Go.Proofs.YtbplapkcleipiaaGreatDoor
open Go.ChangeShapes Go.WideShapes Go.ChangeAt Go.RowKit Go.Sort

def Gw (w w' : World) : Prop := ∃ q os, w' = grow (w.drewN q) os
theorem Gw.refl (w : World) : Gw w w := ⟨0, #[], by rw [grow_empty]; rfl⟩
theorem Gw.trans {a b c : World} (h : Gw a b) (k : Gw b c) : Gw a c := by
  obtain ⟨q, os, rfl⟩ := h
  obtain ⟨r, ot, rfl⟩ := k
  refine ⟨q + r, os ++ ot, ?_⟩
  unfold grow World.drewN
  simp [Nat.add_assoc, Array.append_assoc]
theorem Gw.alloc {w X : World} (h : Gw w X) (o : Obj) : Gw w (X.alloc o) := h.trans ⟨0, #[o], by rw [alloc_eq_grow]; rfl⟩
theorem Gw.drew {w X : World} (h : Gw w X) : Gw w X.drew := h.trans ⟨1, #[], by rw [grow_empty]; rfl⟩
theorem Gw.ext {w w' : World} (h : Gw w w') : Ext w w' := by
  obtain ⟨q, os, rfl⟩ := h
  have hk : ∀ i, i < w.heap.size → (grow (w.drewN q) os).heap[i]? = w.heap[i]? := fun i hi => heap_grow_old (w.drewN q) os hi
  refine ⟨⟨rfl, rfl, fun i hi => ?_⟩, fun a ha => World.frozen?_of_block (hk _ ha), ?_⟩
  · rw [hk i hi]
    have := (World.keptBut_refl w (fun _ => False)).2.2 i hi
    exact this
  · show w.heap.size ≤ (grow (w.drewN q) os).heap.size
    rw [size_grow]; exact Nat.le_add_right _ _
end Go.Proofs.YtbplapkcleipiaaGreatDoor
/- What stays when a row of the call's own grows. -/
namespace Go.Proofs.YtbplapkcleipiaaGreatDoor
open Go.ChangeShapes Go.WideShapes Go.ChangeAt Go.RowKit

theorem ext_grownBy {w X w5 : World} {row : Option Nat} (h : Ext w X) (hg : X.grownBy w5 row) (hr : ∀ k, row = some k → w.heap.size ≤ k) : Ext w w5 := by
  have hb : ∀ i, i < w.heap.size → w5.heap[i]? = X.heap[i]? := fun i hi => hg.block i (Nat.lt_of_lt_of_le hi h.2.2) (fun e => by have := hr i e.symm; omega)
  refine ⟨⟨hg.os.trans h.1.1, hg.output.trans h.1.2.1, fun i hi => ?_⟩, fun a ha => (World.frozen?_of_block (hb _ ha)).trans (h.2.1 a ha), Nat.le_trans h.2.2 hg.size⟩
  rw [hb i hi]
  exact h.1.2.2 i hi

def lenOf : Value → Nat | .slice _ n _ => n | _ => 0
theorem owns_len {w : World} {base : Nat} {e : TypeId} {size : Nat} {v : Value} {n : Nat} {xs : List Value} (ho : w.ownsRow base e size v n xs) : lenOf v = n := by
  rcases ho.2 with ⟨rfl, rfl⟩ | ⟨g, cap, cur, rfl, _⟩ <;> rfl

theorem grow_cell {X Y : World} {row : Option Nat} (hg : X.grownBy Y row) {b o : Nat} {v : Value} (h : X.cell? ⟨b, o, none⟩ = some v) (hne : ∀ k, row = some k → k ≠ b) : Y.cell? ⟨b, o, none⟩ = some v := by
  rw [World.cell?_of_block (hg.block b (World.block_lt_of_cell? _ _ h) (fun e => hne b e.symm rfl))]; exact h
theorem grow_frozen {X Y : World} {row : Option Nat} (hg : X.grownBy Y row) {b o : Nat} (hb : b < X.heap.size) (h : X.frozen? ⟨b, o, none⟩ = false) (hne : ∀ k, row = some k → k ≠ b) : Y.frozen? ⟨b, o, none⟩ = false := by
  rw [World.frozen?_of_block (hg.block b hb (fun e => hne b e.symm rfl))]; exact h
theorem al2_frozen (w : World) (c d : Array Value) (t u : TypeId) (a : Addr) : ((w.alloc (.cells c t)).alloc (.cells d u)).frozen? a = w.frozen? a := by
  rw [frozen?_alloc_cells, frozen?_alloc_cells]
theorem al2_grown (w : World) (c d : Array Value) (t u : TypeId) : Grown w ((w.alloc (.cells c t)).alloc (.cells d u)) := ((Grown.refl _).alloc _ _).alloc _ _

theorem ext_below {W w w' : World} (h : Ext W w) (k : Below W.heap.size w w') : Ext W w' := by
  have hb : ∀ i, i < W.heap.size → w'.heap[i]? = w.heap[i]? := fun i hi => k.block i hi
  refine ⟨⟨k.os.trans h.1.1, k.output.trans h.1.2.1, fun i hi => ?_⟩, fun a ha => (World.frozen?_of_block (hb _ ha)).trans (h.2.1 a ha), Nat.le_trans h.2.2 k.size⟩
  rw [hb i hi]
  exact h.1.2.2 i hi
end Go.Proofs.YtbplapkcleipiaaGreatDoor
/- Rows of whatever elements: slices that are read, rows of the call's own, arrays that are written in place, append, make. -/
namespace Go.Proofs.YtbplapkcleipiaaGreatDoor
open Go.ChangeShapes Go.WideShapes Go.ChangeAt Go.RowKit

/-- how an element lies in cells -/
class Enc (α : Type) where
  sz : Nat
  pos : 0 < sz
  cells : α → List Value
  len : ∀ a, (cells a).length = sz
  one : ∀ a, ∀ u ∈ cells a, u.oneCell' = true
variable {α : Type} [Enc α]
def cellsG (l : List α) : List Value := l.flatMap Enc.cells
theorem cellsG_len (l : List α) : (cellsG l).length = l.length * Enc.sz α := by
  induction l with
  | nil => simp [cellsG]
  | cons x l ih =>
    have : (cellsG (x :: l)).length = (Enc.cells x).length + (cellsG l).length := by simp [cellsG]
    rw [this, ih, Enc.len, List.length_cons, Nat.succ_mul, Nat.add_comm]
theorem cellsG_append (l m : List α) : cellsG (l ++ m) = cellsG l ++ cellsG m := by simp [cellsG]
theorem cellsG_at (l : List α) (i j : Nat) (hi : i < l.length) (hj : j < Enc.sz α) : (cellsG l)[i * Enc.sz α + j]? = (Enc.cells l[i])[j]? := by
  induction l generalizing i with
  | nil => simp at hi
  | cons x l ih =>
    have e : cellsG (x :: l) = Enc.cells x ++ cellsG l := by simp [cellsG]
    rw [e]
    cases i with
    | zero => rw [Nat.zero_mul, Nat.zero_add, List.getElem?_append_left (by rw [Enc.len]; exact hj)]; rfl
    | succ i =>
      rw [Nat.succ_mul, List.getElem?_append_right (by rw [Enc.len]; omega), Enc.len, show i * Enc.sz α + Enc.sz α + j - Enc.sz α = i * Enc.sz α + j by omega, ih i (by simpa using hi)]
      rfl
theorem cellsG_one (l : List α) : ∀ u ∈ cellsG l, u.oneCell' = true := by
  intro u hu
  unfold cellsG at hu
  obtain ⟨a, _, h⟩ := List.mem_flatMap.1 hu
  exact Enc.one a u h
theorem cellsG_take (l : List α) (k : Nat) (h : k ≤ l.length) : (cellsG l).take (k * Enc.sz α) = cellsG (l.take k) := by
  have e : cellsG l = cellsG (l.take k) ++ cellsG (l.drop k) := by rw [← cellsG_append, List.take_append_drop]
  rw [e, List.take_append_of_le_length (by rw [cellsG_len, List.length_take, Nat.min_eq_left h]; exact Nat.le_refl _), List.take_of_length_le (by rw [cellsG_len, List.length_take, Nat.min_eq_left h]; exact Nat.le_refl _)]

/-- the value is a slice whose cells hold these elements -/
def RdG (w : World) (v : Value) (l : List α) : Prop :=
  ∃ ad cap, v = .slice ad l.length cap ∧ l.length ≤ cap ∧ cap ≤ maxLen ∧ (ad = none → cap = 0) ∧
    ∀ (i : Nat) (h : i < l.length), ∃ g o, ad = some ⟨g, o, none⟩ ∧ ∀ j u, (Enc.cells l[i])[j]? = some u → w.cell? ⟨g, o + i * Enc.sz α + j, none⟩ = some u
theorem RdG.ext {w w' : World} {v : Value} {l : List α} (h : RdG w v l) (e : Ext w w') : RdG w' v l := by
  obtain ⟨ad, cap, rfl, h1, h2, h3, h4⟩ := h
  refine ⟨ad, cap, rfl, h1, h2, h3, fun i hi => ?_⟩
  obtain ⟨g, o, rfl, c⟩ := h4 i hi
  exact ⟨g, o, rfl, fun j u hj => e.keeps (c j u hj)⟩
theorem rdG_nil (w : World) : RdG w (.slice none 0 0) ([] : List α) := ⟨none, 0, rfl, Nat.le_refl _, Nat.zero_le _, fun _ => rfl, fun i h => by simp at h⟩
theorem RdG.take {w : World} {ad : Option Addr} {n cap : Nat} {l : List α} (h : RdG w (.slice ad n cap) l) (k : Nat) (hk : k ≤ l.length) : RdG w (.slice ad k cap) (l.take k) := by
  obtain ⟨ad', cap', e, h1, h2, h3, h4⟩ := h
  simp only [Value.slice.injEq] at e
  obtain ⟨rfl, rfl, rfl⟩ := e
  have hl : (l.take k).length = k := by rw [List.length_take]; omega
  refine ⟨ad, cap, by rw [hl], by omega, h2, h3, fun i hi => ?_⟩
  rw [hl] at hi
  obtain ⟨g, o, rfl, c⟩ := h4 i (by omega)
  exact ⟨g, o, rfl, fun j u hj => c j u (by rw [List.getElem_take] at hj; exact hj)⟩
theorem RdG.len {w : World} {ad : Option Addr} {n cap : Nat} {l : List α} (h : RdG w (.slice ad n cap) l) : n = l.length ∧ n ≤ cap ∧ cap ≤ maxLen := by
  obtain ⟨ad', cap', e, h1, h2, h3, h4⟩ := h
  simp only [Value.slice.injEq] at e
  obtain ⟨rfl, rfl, rfl⟩ := e
  exact ⟨rfl, h1, h2⟩
/-- the cells of one element -/
theorem RdG.at {w : World} {ad : Option Addr} {n cap : Nat} {l : List α} (h : RdG w (.slice ad n cap) l) (i : Nat) (hi : i < l.length) : ∃ g o, ad = some ⟨g, o, none⟩ ∧ ∀ j u, (Enc.cells l[i])[j]? = some u → w.cell? ⟨g, o + i * Enc.sz α + j, none⟩ = some u := by
  obtain ⟨ad', cap', e, h1, h2, h3, h4⟩ := h
  simp only [Value.slice.injEq] at e
  obtain ⟨rfl, rfl, rfl⟩ := e
  exact h4 i hi
theorem RdG.news {w : World} {ad : Addr} {n cap : Nat} {l : List α} (h : RdG w (.slice (some ad) n cap) l) : ∀ j u, (cellsG l)[j]? = some u → w.cell? (ad.add j) = some u := by
  obtain ⟨ad', cap', e, h1, h2, h3, h4⟩ := h
  simp only [Value.slice.injEq] at e
  obtain ⟨rfl, rfl, rfl⟩ := e
  intro j u hj
  have hp := Enc.pos (α := α)
  have hlt : j < l.length * Enc.sz α := by rw [← cellsG_len]; exact (List.getElem?_eq_some_iff.1 hj).1
  have hd : j / Enc.sz α < l.length := Nat.div_lt_of_lt_mul (by rw [Nat.mul_comm]; exact hlt)
  obtain ⟨g, o, e, c⟩ := h4 (j / Enc.sz α) hd
  simp only [Option.some.injEq] at e
  subst e
  have hadd : (⟨g, o, none⟩ : Addr).add j = ⟨g, o + j, none⟩ := by unfold Addr.add; split <;> simp_all
  have hm : j / Enc.sz α * Enc.sz α + j % Enc.sz α = j := Nat.div_add_mod' j _
  have hx := cellsG_at l (j / Enc.sz α) (j % Enc.sz α) hd (Nat.mod_lt _ hp)
  rw [hm, hj] at hx
  have hc := c _ _ hx.symm
  rw [hadd, ← hc, Nat.add_assoc, hm]
theorem rdG_of_owns {w : World} {base : Nat} {e : TypeId} {v : Value} {l : List α} (ho : w.ownsRow base e (Enc.sz α) v l.length (cellsG l)) : RdG w v l := by
  have hp := Enc.pos (α := α)
  rcases ho.2 with ⟨rfl, hn⟩ | ⟨g, cap, cur, rfl, hb, hg, hc, hm, hs, ht⟩
  · exact ⟨none, 0, by rw [hn], by omega, Nat.zero_le _, fun _ => rfl, fun i h => by omega⟩
  · refine ⟨some ⟨g, 0, none⟩, cap, rfl, hc, hm, (fun h => by cases h), fun i h => ⟨g, 0, rfl, fun j u hj => ?_⟩⟩
    have hjs : j < Enc.sz α := by rw [← Enc.len l[i]]; exact (List.getElem?_eq_some_iff.1 hj).1
    have hlt : i * Enc.sz α + j < l.length * Enc.sz α := by
      have : (i + 1) * Enc.sz α ≤ l.length * Enc.sz α := Nat.mul_le_mul_right _ h
      rw [Nat.succ_mul] at this; omega
    rw [Nat.zero_add, ho.cellAt _ hlt, cellsG_at l i j h hjs, hj]
/-- a row of the call's own: new behind W -/
def OwnG (e : TypeId) (W w : World) (v : Value) (l : List α) : Prop := w.ownsRow W.heap.size e (Enc.sz α) v l.length (cellsG l) ∧ Ext W w
theorem OwnG.nil (e : TypeId) (W w : World) (h : Ext W w) : OwnG e W w (.slice none 0 0) ([] : List α) := ⟨World.ownsRow_nil _ _ _ _, h⟩
theorem OwnG.ext {e : TypeId} {W w w' : World} {v : Value} {l : List α} (h : OwnG e W w v l) (k : Ext w w') : OwnG e W w' v l := ⟨k.owns h.1, h.2.trans k⟩
theorem OwnG.rd {e : TypeId} {W w : World} {v : Value} {l : List α} (h : OwnG e W w v l) : RdG w v l := rdG_of_owns h.1
theorem OwnG.grow {e : TypeId} {W w w' : World} {v v' : Value} {l m : List α} (h : OwnG e W w v l) (hg : w.grownBy w' v.ownBlock) (ho : w'.ownsRow W.heap.size e (Enc.sz α) v' m.length (cellsG m)) : OwnG e W w' v' m :=
  ⟨ho, ext_grownBy h.2 hg (fun k hk => (h.1.lt k hk).1)⟩
/-- an elder base -/
theorem OwnG.base {e : TypeId} {W W' w : World} {v : Value} {l : List α} (h : OwnG e W w v l) (hE : Ext W' W) : OwnG e W' w v l := by
  refine ⟨⟨h.1.1, ?_⟩, hE.trans h.2⟩
  rcases h.1.2 with h2 | ⟨g, cap, cur, hv, hg, hh, r⟩
  · exact Or.inl h2
  · exact Or.inr ⟨g, cap, cur, hv, Nat.le_trans hE.2.2 hg, hh, r⟩
/-- what lies in other blocks stays -/
theorem OwnG.far {e : TypeId} {W w w' : World} {v : Value} {l : List α} (h : OwnG e W w v l) (hg : w.grownBy w' v.ownBlock) {b o : Nat} {u : Value} (hb : b < W.heap.size) (hc : w.cell? ⟨b, o, none⟩ = some u) : w'.cell? ⟨b, o, none⟩ = some u :=
  grow_cell hg hc (fun k hk => by have := (h.1.lt k hk).1; omega)
/-- the element's type in the program's table -/
structure RowT (α : Type) [Enc α] where
  e : TypeId
  t : TypeId
  z : α
  zv : Value
  bytes : Nat
  hu : Tryz.prog.underlying t = some (.slice e)
  hi : (Tryz.prog.info? e).map (fun i => (i.zero, i.size, i.bytes)) = some (some zv, Enc.sz α, bytes)
  hz : zv.cells = (Enc.cells z).toArray
  hb : bytes ≤ 1024
theorem RowT.zsz (T : RowT α) : T.zv.cells.size = Enc.sz α := by rw [T.hz, List.size_toArray, Enc.len]
theorem RowT.fits (T : RowT α) (n : Nat) (h : n ≤ 137438953472) : n * T.bytes ≤ 140737488355328 := by
  have := Nat.mul_le_mul h T.hb; omega
theorem appG (T : RowT α) {w : World} {ops : Array Oper} {rest : List Oper} {o : Oper} {a : Act} {Q : Exit → Act → World → Prop} (hgd : o.guard = none) (s x : Operand)
    (ho : o.op = .call { callee := .builtin .append, args := #[s, x], argTypes := #[T.t, T.t] })
    (W : World) (v : Value) (l : List α) (hs : a.eval s = v) (hown : OwnG T.e W w v l) (vx : Value) (m : List α) (hx : a.eval x = vx) (hrd : RdG w vx m) (hlen : l.length + m.length ≤ 137438953472)
    (h : ∀ v' w', OwnG T.e W w' v' (l ++ m) → w.grownBy w' v.ownBlock → wpList Tryz.prog ops Q rest (a.put o.dst v') w') : wpList Tryz.prog ops Q (o :: rest) a w := by
  obtain ⟨i0, hi, hz0, hz1, hz2⟩ := info_parts T.hi
  obtain ⟨ad, cap, rfl, h1, h2, h3, h4⟩ := hrd
  cases ad with
  | some ad =>
    refine wpList_append_own w hgd s x T.t ho W.heap.size T.e i0 T.zv (Enc.sz α) T.bytes T.hu hi hz0 hz1 hz2 T.zsz Enc.pos v l.length (cellsG l) hs hown.1 ad m.length cap (cellsG m) hx (cellsG_len m)
      (RdG.news ⟨some ad, cap, rfl, h1, h2, h3, h4⟩) (cellsG_one m) (by unfold maxLen; omega) (T.fits _ hlen) hown.2.2.2 ?_
    intro v' w' ho' hg' _
    refine h v' w' (hown.grow hg' ?_) hg'
    rw [cellsG_append, List.length_append]; exact ho'
  | none =>
    have hm : m = [] := List.eq_nil_of_length_eq_zero (by have := h3 rfl; omega)
    subst hm
    obtain rfl := h3 rfl
    refine wpList_plain hgd fun K hK' => ?_
    have hrun := run_append_owned_none (P := Tryz.prog) w W.heap.size T.t o.type T.e i0 (Enc.sz α) T.hu hi _ l.length (cellsG l) hown.1
    unfold Oper.wp
    simp only [List.length_nil] at hx
    simp [execOp, ho, resolve, invoke, builtin, hs, hx, hrun, Result.andThen]
    exact hK' _ _ (h v w (by simpa using hown) (World.grownBy.refl _ _))
/-- at a step of a region that draws its order -/
theorem step_appG (T : RowT α) {w : World} {ops : Array Oper} {o : Oper} {a : Act} {K : Act → World → Prop} {Q : Exit → Act → World → Prop} {E : Prop} (hgd : o.guard = none) (s x : Operand)
    (ho : o.op = .call { callee := .builtin .append, args := #[s, x], argTypes := #[T.t, T.t] })
    (W : World) (v : Value) (l : List α) (hs : a.eval s = v) (hown : OwnG T.e W w v l) (vx : Value) (m : List α) (hx : a.eval x = vx) (hrd : RdG w vx m) (hlen : l.length + m.length ≤ 137438953472)
    (h : ∀ v' w', OwnG T.e W w' v' (l ++ m) → w.grownBy w' v.ownBlock → K (a.put o.dst v') w') :
    if Region.wanted o (yielded ops a.tmps) = true then Oper.wp Tryz.prog o a w K Q else E := by
  have hw : Region.wanted o (yielded ops a.tmps) = true := by simp [Region.wanted, hgd]
  rw [if_pos hw]
  obtain ⟨i0, hi, hz0, hz1, hz2⟩ := info_parts T.hi
  obtain ⟨ad, cap, rfl, h1, h2, h3, h4⟩ := hrd
  cases ad with
  | some ad =>
    obtain ⟨v', w', hr, ho', hg', _⟩ := run_append_own (P := Tryz.prog) w W.heap.size T.t o.type T.e i0 T.zv (Enc.sz α) T.bytes T.hu hi hz0 hz1 hz2 T.zsz Enc.pos v l.length (cellsG l) hown.1 ad m.length cap (cellsG m) (cellsG_len m)
      (RdG.news ⟨some ad, cap, rfl, h1, h2, h3, h4⟩) (cellsG_one m) (by unfold maxLen; omega) (T.fits _ hlen) hown.2.2.2
    unfold Oper.wp execOp
    simp only [ho, resolve, invoke, builtin, Sem.run_bind, Sem.run_pure, Result.andThen_ok, List.map_toArray, List.map_cons, List.map_nil, hs, hx, hr]
    refine h v' w' (hown.grow hg' ?_) hg'
    rw [cellsG_append, List.length_append]; exact ho'
  | none =>
    have hm : m = [] := List.eq_nil_of_length_eq_zero (by have := h3 rfl; omega)
    subst hm
    obtain rfl := h3 rfl
    have hrun := run_append_owned_none (P := Tryz.prog) w W.heap.size T.t o.type T.e i0 (Enc.sz α) T.hu hi _ l.length (cellsG l) hown.1
    unfold Oper.wp
    simp only [List.length_nil] at hx
    simp [execOp, ho, resolve, invoke, builtin, hs, hx, hrun, Result.andThen]
    exact h v w (by simpa using hown) (World.grownBy.refl _ _)
/-- an array of the call's own, written in place -/
def Arr (e : TypeId) (W w : World) (g : Nat) (l : List α) : Prop := w.ownsRow W.heap.size e (Enc.sz α) (.slice (some ⟨g, 0, none⟩) l.length l.length) l.length (cellsG l) ∧ Ext W w
theorem Arr.ext {e : TypeId} {W w w' : World} {g : Nat} {l : List α} (h : Arr e W w g l) (k : Ext w w') : Arr e W w' g l := ⟨k.owns h.1, h.2.trans k⟩
theorem Arr.rd {e : TypeId} {W w : World} {g : Nat} {l : List α} (h : Arr e W w g l) : RdG w (.slice (some ⟨g, 0, none⟩) l.length l.length) l := rdG_of_owns h.1
theorem Arr.lo {e : TypeId} {W w : World} {g : Nat} {l : List α} (h : Arr e W w g l) : W.heap.size ≤ g ∧ g < w.heap.size := by
  rcases h.1.2 with ⟨hv, _⟩ | ⟨g', cap, cur, hv, hb, hg, _⟩
  · cases hv
  · simp only [Value.slice.injEq, Option.some.injEq, Addr.mk.injEq, and_true] at hv
    obtain ⟨rfl, _⟩ := hv
    exact ⟨hb, (Array.getElem?_eq_some_iff.1 hg).1⟩
theorem Arr.cell {e : TypeId} {W w : World} {g : Nat} {l : List α} (h : Arr e W w g l) (i j : Nat) (u : Value) (hi : i < l.length) (hj : (Enc.cells l[i])[j]? = some u) : w.cell? ⟨g, i * Enc.sz α + j, none⟩ = some u := by
  obtain ⟨g', o, e', c⟩ := h.rd.at i hi
  simp only [Option.some.injEq, Addr.mk.injEq, and_true] at e'
  obtain ⟨rfl, rfl⟩ := e'
  rw [← c j u hj, Nat.zero_add]
theorem Arr.frozen {e : TypeId} {W w : World} {g : Nat} {l : List α} (h : Arr e W w g l) (j : Nat) : w.frozen? ⟨g, j, none⟩ = false := h.1.frozenAt j
/-- cells written one behind another -/
def putAll (w : World) (g : Nat) : Nat → List Value → World
  | _, [] => w
  | o, u :: us => putAll (w.setCell ⟨g, o, none⟩ u) g (o + 1) us
def setL (xs : List Value) : Nat → List Value → List Value
  | _, [] => xs
  | o, u :: us => setL (xs.set o u) (o + 1) us
theorem setL_len (xs : List Value) (o : Nat) (us : List Value) : (setL xs o us).length = xs.length := by
  induction us generalizing xs o with
  | nil => rfl
  | cons u us ih => rw [setL, ih, List.length_set]
theorem setL_at (xs : List Value) (o : Nat) (us : List Value) (j : Nat) (h : o + us.length ≤ xs.length) : (setL xs o us)[j]? = if o ≤ j ∧ j < o + us.length then us[j - o]? else xs[j]? := by
  induction us generalizing xs o with
  | nil => rw [setL, if_neg (by simp)]
  | cons u us ih =>
    simp only [List.length_cons] at h
    rw [setL, ih _ _ (by rw [List.length_set]; omega)]
    by_cases h1 : o + 1 ≤ j ∧ j < o + 1 + us.length
    · rw [if_pos h1, if_pos ⟨by omega, by rw [List.length_cons]; omega⟩, show j - o = (j - (o + 1)) + 1 by omega]; rfl
    · rw [if_neg h1]
      by_cases h2 : o = j
      · subst h2; rw [if_pos ⟨by omega, by rw [List.length_cons]; omega⟩, List.getElem?_set_self (by omega), Nat.sub_self]; rfl
      · rw [List.getElem?_set_ne h2, if_neg (fun x => by rw [List.length_cons] at x; omega)]
theorem putAll_owns {e : TypeId} {base size g n cap : Nat} (us : List Value) : ∀ (w : World) (o : Nat) (xs : List Value), w.ownsRow base e size (.slice (some ⟨g, 0, none⟩) n cap) n xs →
    (putAll w g o us).ownsRow base e size (.slice (some ⟨g, 0, none⟩) n cap) n (setL xs o us) ∧ w.grownBy (putAll w g o us) (some g) := by
  induction us with
  | nil => intro w o xs h; exact ⟨h, World.grownBy.refl _ _⟩
  | cons u us ih =>
    intro w o xs h
    obtain ⟨h1, h2⟩ := h.stored o u
    obtain ⟨h3, h4⟩ := ih _ (o + 1) _ h1
    exact ⟨h3, { os := h4.os.trans h2.os, output := h4.output.trans h2.output, tape := h4.tape.trans h2.tape, size := Nat.le_trans h2.size h4.size, block := fun k hk hn => (h4.block k (Nat.lt_of_lt_of_le hk h2.size) hn).trans (h2.block k hk hn) }⟩
theorem cellsG_set (l : List α) (i : Nat) (x : α) (hi : i < l.length) : setL (cellsG l) (i * Enc.sz α) (Enc.cells x) = cellsG (l.set i x) := by
  have hle : (i + 1) * Enc.sz α ≤ l.length * Enc.sz α := Nat.mul_le_mul_right _ hi
  rw [Nat.succ_mul] at hle
  have hp := Enc.pos (α := α)
  refine List.ext_getElem? fun j => ?_
  rw [setL_at _ _ _ _ (by rw [Enc.len, cellsG_len]; exact hle), Enc.len]
  by_cases hj : j < l.length * Enc.sz α
  · have hd : j / Enc.sz α < l.length := Nat.div_lt_of_lt_mul (by rw [Nat.mul_comm]; exact hj)
    have hm : j / Enc.sz α * Enc.sz α + j % Enc.sz α = j := Nat.div_add_mod' j _
    have hr := Nat.mod_lt j hp
    have e1 := cellsG_at (l.set i x) (j / Enc.sz α) (j % Enc.sz α) (by rw [List.length_set]; exact hd) hr
    have e2 := cellsG_at l (j / Enc.sz α) (j % Enc.sz α) hd hr
    rw [hm] at e1 e2
    rw [e1, e2, List.getElem_set]
    by_cases hij : i = j / Enc.sz α
    · rw [if_pos hij, if_pos ⟨by rw [hij]; omega, by rw [hij]; omega⟩]
      congr 1; rw [hij]; omega
    · rw [if_neg hij, if_neg]
      rintro ⟨h1, h2⟩
      apply hij
      have a1 : i ≤ j / Enc.sz α := (Nat.le_div_iff_mul_le hp).2 h1
      have a2 : j / Enc.sz α < i + 1 := (Nat.div_lt_iff_lt_mul hp).2 (by rw [Nat.succ_mul]; exact h2)
      omega
  · rw [if_neg (by omega), List.getElem?_eq_none (by rw [cellsG_len]; omega), List.getElem?_eq_none (by rw [cellsG_len, List.length_set]; omega)]
theorem Arr.put {e : TypeId} {W w : World} {g : Nat} {l : List α} (h : Arr e W w g l) (i : Nat) (x : α) (hi : i < l.length) : Arr e W (putAll w g (i * Enc.sz α) (Enc.cells x)) g (l.set i x) ∧ w.grownBy (putAll w g (i * Enc.sz α) (Enc.cells x)) (some g) := by
  obtain ⟨h1, h2⟩ := putAll_owns (Enc.cells x) w (i * Enc.sz α) (cellsG l) h.1
  refine ⟨⟨?_, ext_grownBy h.2 h2 (fun k hk => by injection hk with hk; subst hk; exact h.lo.1)⟩, h2⟩
  rw [cellsG_set l i x hi] at h1
  rw [List.length_set]; exact h1
/-- what lies in other blocks stays -/
theorem Arr.far {e : TypeId} {W w w' : World} {g : Nat} {l : List α} (_ : Arr e W w g l) (hg : w.grownBy w' (some g)) {b o : Nat} {u : Value} (hb : g ≠ b) (hc : w.cell? ⟨b, o, none⟩ = some u) : w'.cell? ⟨b, o, none⟩ = some u :=
  grow_cell hg hc (fun k hk => by injection hk with hk; subst hk; exact hb)
theorem made_eq (T : RowT α) (n : Nat) : (madeCells T.zv.cells (n * Enc.sz α)).toList = cellsG (List.replicate n T.z) := by
  have hp := Enc.pos (α := α)
  refine List.ext_getElem? fun j => ?_
  by_cases hj : j < n * Enc.sz α
  · have hd : j / Enc.sz α < n := Nat.div_lt_of_lt_mul (by rw [Nat.mul_comm]; exact hj)
    have hm : j / Enc.sz α * Enc.sz α + j % Enc.sz α = j := Nat.div_add_mod' j _
    have hr := Nat.mod_lt j hp
    have e1 := cellsG_at (List.replicate n T.z) (j / Enc.sz α) (j % Enc.sz α) (by simpa using hd) hr
    rw [hm, List.getElem_replicate] at e1
    rw [e1, T.hz]
    have hl : j % Enc.sz α < (Enc.cells T.z).length := by rw [Enc.len]; exact hr
    simp [madeCells, hj, Enc.len]
    rw [List.getElem?_eq_getElem hl]; rfl
  · rw [List.getElem?_eq_none (by simp [madeCells]; omega), List.getElem?_eq_none (by rw [cellsG_len, List.length_replicate]; omega)]
/-- make([]T, n) -/
theorem makeG (T : RowT α) {w : World} {ops : Array Oper} {rest : List Oper} {o : Oper} {a : Act} {Q : Exit → Act → World → Prop}
    (hg : o.guard = none) (l c : Operand) (hop : o.op = Op.makeSlice T.t l c) (W : World) (hW : Ext W w)
    (L C : Int) (n : Nat) (hl : a.eval l = .int .i64 L) (hc : a.eval c = .int .i64 C) (hL : L = (n : Int)) (hC : C = (n : Int)) (b : n ≤ 137438953472)
    (hK : ∀ w', Arr T.e W w' w.heap.size (List.replicate n T.z) → Ext w w' → wpList Tryz.prog ops Q rest (a.put o.dst (.slice (some ⟨w.heap.size, 0, none⟩) n n)) w') :
    wpList Tryz.prog ops Q (o :: rest) a w := by
  obtain ⟨i0, hi, hz0, hz1, hz2⟩ := info_parts T.hi
  refine wpList_make_full w hg l c T.t hop W.heap.size T.e i0 T.zv (Enc.sz α) T.hu hi hz0 hz1 .i64 .i64 L C n hl hc hL hC (by rw [hz2, Nat.mul_comm]; exact Nat.le_trans (T.fits n b) (by omega)) (by unfold maxLen; omega) hW.2.2 ?_
  intro w' ho hgr
  rw [made_eq] at ho
  exact hK w' ⟨by rw [List.length_replicate]; exact ho, ext_grownBy hW hgr (fun k hk => by cases hk)⟩ (ext_grownBy (Ext.refl _) hgr (fun k hk => by cases hk))
end Go.Proofs.YtbplapkcleipiaaGreatDoor
/- Rows of numbers. -/
namespace Go.Proofs.YtbplapkcleipiaaGreatDoor
open Go.ChangeShapes Go.WideShapes Go.ChangeAt Go.RowKit

instance : Enc Int := ⟨1, by decide, fun n => [.int .i64 n], fun _ => rfl, fun a u h => by simp at h; subst h; rfl⟩
def tI : RowT Int := ⟨3, 41, 0, .int .i64 0, 8, Tryz.underlying41, by kernel_rfl, by rfl, by decide⟩
theorem rd_I {w : World} {ad : Option Addr} {n cap : Nat} {l : List Int} (h : RdG w (.slice ad n cap) l) (i : Nat) (hi : i < l.length) : ∃ g o, ad = some ⟨g, o, none⟩ ∧ w.cell? ⟨g, o + i, none⟩ = some (.int .i64 l[i]) := by
  obtain ⟨g, o, e, c⟩ := h.at i hi
  exact ⟨g, o, e, by have := c 0 _ rfl; simpa [Enc.sz] using this⟩
theorem RdG.shape {α : Type} [Enc α] {w : World} {v : Value} {l : List α} (h : RdG w v l) : ∃ ad cap, v = .slice ad l.length cap ∧ l.length ≤ cap ∧ cap ≤ maxLen := by
  obtain ⟨ad, cap, rfl, h1, h2, _⟩ := h
  exact ⟨ad, cap, rfl, h1, h2⟩
theorem getD_at {α : Type} (l : List α) (d : α) (i : Nat) (h : i < l.length) : l.getD i d = l[i] := by simp [List.getD, h]
theorem al_c (w : World) (c : Array Value) (t : TypeId) (j : Nat) (v : Value) (h : c[j]? = some v) : (w.alloc (.cells c t)).cell? ⟨w.heap.size, j, none⟩ = some v := by
  rw [World.cell?, (MapKept.heap_alloc w _).1]; simpa using h
theorem rd_lit1I (w : World) (z : Int) (t : TypeId) (n : Nat) (hn : n = w.heap.size) : RdG (w.alloc (.cells #[.int .i64 z] t)) (.slice (some ⟨n, 0, none⟩) 1 1) [z] := by
  subst hn
  refine ⟨some ⟨w.heap.size, 0, none⟩, 1, rfl, Nat.le_refl _, by decide, fun h => (by cases h), fun i hi => ?_⟩
  obtain rfl : i = 0 := by simpa using hi
  refine ⟨_, _, rfl, fun j u hu => ?_⟩
  cases j with
  | zero =>
    obtain rfl : Value.int .i64 z = u := by simpa [Enc.cells] using hu
    exact al_c w #[.int .i64 z] t 0 _ rfl
  | succ j => simp [Enc.cells] at hu
theorem cellsI (l : List Int) : cellsG l = l.map (Value.int .i64) := by
  induction l with
  | nil => rfl
  | cons a l ih =>
    have : cellsG (a :: l) = [.int .i64 a] ++ cellsG l := rfl
    rw [this, ih]; rfl
end Go.Proofs.YtbplapkcleipiaaGreatDoor
/- A slice that the code writes out. -/
namespace Go.Proofs.YtbplapkcleipiaaGreatDoor
open Go.ChangeShapes Go.WideShapes Go.ChangeAt Go.RowKit

theorem al_g (w : World) (c : Array Value) (t : TypeId) (j : Nat) (v : Value) (h : c[j]? = some v) : (w.alloc (.cells c t)).cell? ⟨w.heap.size, j, none⟩ = some v := al_c w c t j v h
/-- a slice that the code writes out -/
theorem rd_litG {α : Type} [Enc α] (w : World) (l : List α) (c : Array Value) (t : TypeId) (n k : Nat) (hn : n = w.heap.size) (hk : k = l.length) (hl : l.length ≤ 1000) (hc : c.toList = cellsG l) : RdG (w.alloc (.cells c t)) (.slice (some ⟨n, 0, none⟩) k k) l := by
  subst hn hk
  refine ⟨some ⟨w.heap.size, 0, none⟩, l.length, rfl, Nat.le_refl _, by unfold maxLen; omega, fun h => (by cases h), fun i hi => ⟨_, _, rfl, fun j u hu => ?_⟩⟩
  refine al_g w c t _ u ?_
  have hj : j < Enc.sz α := by have := (List.getElem?_eq_some_iff.1 hu).1; rw [Enc.len] at this; exact this
  have e := cellsG_at l i j hi hj
  rw [hu] at e
  rw [← Array.getElem?_toList, hc, Nat.zero_add]
  exact e
end Go.Proofs.YtbplapkcleipiaaGreatDoor
/- Blocks of an elder world behind a walk. -/
namespace Go.Proofs.YtbplapkcleipiaaGreatDoor
open Go.ChangeShapes Go.WideShapes Go.ChangeAt Go.RowKit

theorem laidOutP : laidOutB Tryz.prog = true := by kernel_rfl
theorem ext_block {w w' : World} (h : Ext w w') {i : Nat} (hi : i < w.heap.size) : w'.heap[i]? = w.heap[i]? := by
  have hk := h.1.2.2 i hi
  cases h1 : w.heap[i]? with
  | none => rw [Array.getElem?_eq_none_iff] at h1; omega
  | some o =>
    rw [h1] at hk
    cases h2 : w'.heap[i]? with
    | none => rw [h2] at hk; cases o <;> simp at hk
    | some o' =>
      rw [h2] at hk
      cases o <;> cases o' <;> simp at hk ⊢
      all_goals first
        | exact hk
        | (obtain ⟨rfl, rfl, _, hj⟩ := hk; exact ⟨Array.ext_getElem? hj, rfl, rfl⟩)
theorem ext_same {w w' : World} (h : Ext w w') {p : MemPlace} (hp : p.block < w.heap.size) : w.sameAt w' p := by
  cases p with
  | cell b o => exact World.cell?_of_block (w := w) (ext_block h hp)
  | map b => exact ext_block h hp
end Go.Proofs.YtbplapkcleipiaaGreatDoor
