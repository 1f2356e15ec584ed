/- Queries in plain lists: the columns of nodes, the rows of nodes. -/
import Derived.Below
import Derived.WalkKit
import Derived.Deep.RegionHeld3
import Derived.IntWalk
import Derived.Sort.Grow
import Derived.Deep.Draws
import Derived.Laws.OwnMore
import Derived.OwnWalk
import Derived.Test.YtfojeajmonnifaaGreatDoorZz01
import Derived.Test.YtfojeajmonnifaaGreatDoorZz02
namespace Go.Proofs.YtfojeajmonnifaaGreatDoor

/-- the first error, or all answers -/
def mapE {α β : Type} (f : α → β × Int) : List α → List β × Int
  | [] => ([], 0)
  | x :: l => if (f x).2 ≠ 0 then ([], (f x).2) else if (mapE f l).2 ≠ 0 then ([], (mapE f l).2) else ((f x).1 :: (mapE f l).1, 0)
theorem mapE_ok {α β : Type} (f : α → β × Int) : ∀ l : List α, (∀ x ∈ l, (f x).2 = 0) → mapE f l = (l.map fun x => (f x).1, 0)
  | [], _ => rfl
  | x :: l, h => by
    have h1 := h x (by simp)
    have h2 := mapE_ok f l fun y hy => h y (List.mem_cons_of_mem _ hy)
    unfold mapE
    rw [if_neg (by rw [h1]; simp), h2, if_neg (by simp)]; rfl
theorem mapE_bad {α β : Type} (f : α → β × Int) : ∀ (l : List α) (k : Nat) (h : k < l.length), (∀ i, (hi : i < k) → (f (l[i]'(by omega))).2 = 0) → (f l[k]).2 ≠ 0 → mapE f l = ([], (f l[k]).2)
  | [], k, h, _, _ => by simp at h
  | x :: l, 0, _, _, h => by unfold mapE; exact if_pos h
  | x :: l, k + 1, h, h1, h2 => by
    have h0 : (f x).2 = 0 := h1 0 (by omega)
    have ih := mapE_bad f l k (by simpa using h) (fun i hi => h1 (i + 1) (by omega)) h2
    unfold mapE
    rw [if_neg (by rw [h0]; simp), ih]; exact if_pos h2
theorem mapE_iff {α β : Type} (f : α → β × Int) : ∀ l : List α, (mapE f l).2 = 0 ↔ ∀ x ∈ l, (f x).2 = 0
  | [] => by simp [mapE]
  | x :: l => by
    have ih := mapE_iff f l
    unfold mapE
    by_cases h : (f x).2 = 0
    · rw [if_neg (by rw [h]; simp)]
      by_cases h2 : (mapE f l).2 = 0
      · rw [if_neg (by rw [h2]; simp)]; simp only [true_iff]; intro y hy
        rcases List.mem_cons.1 hy with rfl | hy
        · exact h
        · exact ih.1 h2 y hy
      · rw [if_pos h2]; simp only [h2, false_iff]; intro hh; exact h2 (ih.2 fun y hy => hh y (List.mem_cons_of_mem _ hy))
    · rw [if_pos h]; simp only [h, false_iff]; intro hh; exact h (hh x (by simp))

structure Nd where
  k : Int
  a : Int
  b : Int
  p : Int
  s : List UInt8
  ex : List Int
  ag : List (Int × Int)
instance : Inhabited Nd := ⟨⟨0, 0, 0, 0, [], [], []⟩⟩
structure Tt where
  s : List UInt8
  ks : List Int
instance : Inhabited Tt := ⟨⟨[], []⟩⟩

/- columns -/
/-- how many inputs an operator has; -1: there is no such operator -/
def inpN (k : Int) : Int := if k = 1 then 0 else if k = 2 ∨ k = 3 ∨ k = 9 ∨ k = 10 then 1 else if 4 ≤ k ∧ k ≤ 8 then 2 else -1
def atC (l : List (List Int)) (i : Int) : List Int := l.getD i.toNat []
def cmn : List Int → List Int → Option (List Int)
  | [], [] => some []
  | x :: a, y :: b => if y = x ∨ y = 0 then (cmn a b).map (x :: ·) else if x = 0 then (cmn a b).map (y :: ·) else none
  | _, _ => none
def cmnC (a b : List Int) : List Int × Int := match cmn a b with | some c => (c, 0) | none => ([], 7)
def scnC : List Tt → List UInt8 → List Int × Int
  | [], _ => ([], 8)
  | t :: l, s => if t.s = s then (t.ks, 0) else scnC l s
def prdC (es : List X) (p : Int) (cols : List Int) : List Int × Int := if (chkV es p cols).2 ≠ 0 then ([], (chkV es p cols).2) else if accB 3 (chkV es p cols).1 = true then (cols, 0) else ([], 7)
def typC (es : List X) (ex cols : List Int) : List Int × Int := mapE (fun x => chkV es x cols) ex
/-- the argument of an aggregate: its type, an error -/
def argC (es : List X) (cols : List Int) (g : Int × Int) : Int × Int := if g.1 = 1 then (0, 0) else if 2 ≤ g.1 ∧ g.1 ≤ 4 then chkV es g.2 cols else (0, 5)
def tyA (k t : Int) : Int := if k = 1 ∨ k = 2 then 1 else t
def badS (es : List X) (cols : List Int) (g : Int × Int) : Bool := decide (g.1 = 2) && !accB 1 (argC es cols g).1
def grpC (es : List X) (ex : List Int) (ag : List (Int × Int)) (cols : List Int) : List Int × Int :=
  if (typC es ex cols).2 ≠ 0 then ([], (typC es ex cols).2)
  else if (mapE (argC es cols) ag).2 ≠ 0 then ([], (mapE (argC es cols) ag).2)
  else if ag.any (badS es cols) = true then ([], 7)
  else (ex.map (fun x => (chkV es x cols).1) ++ ag.map (fun g => tyA g.1 (argC es cols g).1), 0)
def colO (es : List X) (ts : List Tt) (n : Nd) (done : List (List Int)) : List Int × Int :=
  if n.k = 1 then scnC ts n.s
  else if n.k = 2 then prdC es n.p (atC done n.a)
  else if n.k = 3 then typC es n.ex (atC done n.a)
  else if n.k = 4 ∨ n.k = 5 then prdC es n.p (atC done n.a ++ atC done n.b)
  else if n.k = 6 ∨ n.k = 7 ∨ n.k = 8 then cmnC (atC done n.a) (atC done n.b)
  else if n.k = 10 then grpC es n.ex n.ag (atC done n.a)
  else (atC done n.a, 0)
def wdC (c : List Int × Int) : List Int × Int := if c.2 ≠ 0 then ([], c.2) else if c.1.length = 0 ∨ 64 < c.1.length then ([], 4) else c
def chkN (es : List X) (ts : List Tt) (n : Nd) (done : List (List Int)) : List Int × Int :=
  if inpN n.k = -1 then ([], 5)
  else if (1 ≤ inpN n.k ∧ isIx n.a done.length = false) ∨ (inpN n.k = 2 ∧ isIx n.b done.length = false) then ([], 10)
  else wdC (colO es ts n done)
def colsQ (es : List X) (ts : List Tt) : List Nd → List (List Int) → List (List Int) × Int
  | [], done => (done, 0)
  | n :: l, done => if (chkN es ts n done).2 ≠ 0 then ([], (chkN es ts n done).2) else colsQ es ts l (done ++ [(chkN es ts n done).1])
def colQ (es : List X) (ts : List Tt) (l : List Nd) : List (List Int) × Int := if l.length = 0 ∨ 40 < l.length ∨ 200 < es.length then ([], 4) else colsQ es ts l []
/-- what Check returns -/
def chkQ (es : List X) (ts : List Tt) (l : List Nd) : List Int × Int := if (colQ es ts l).2 ≠ 0 then ([], (colQ es ts l).2) else ((colQ es ts l).1.getLastD [], 0)

/- rows -/
/-- numbers without order and repetition -/
def linL (l : List Int) : List Int := Lib.compact (l.mergeSort fun x y => decide (x ≤ y))
theorem linL_asc (l : List Int) : Asc (linL l) := (sort_cut l).1
theorem linL_mem (l : List Int) (c : Int) : c ∈ linL l ↔ c ∈ l := (sort_cut l).2 c
theorem linL_eq {a b : List Int} (h : ∀ c, c ∈ a ↔ c ∈ b) : linL a = linL b := asc_unique _ _ (linL_asc _) (linL_asc _) fun c => by rw [linL_mem, linL_mem]; exact h c
def linR (l : List R) : List Int := linL (l.flatMap R.t)
def hldB (es : List X) (p : Int) (v : List V) : Bool := truB (evlV es p v)
def valL (es : List X) (ex : List Int) (v : List V) : List V := ex.map fun x => evlV es x v
def selL (es : List X) (p : Int) (l : List R) : List R := l.filter fun r => hldB es p r.v
def prjL (es : List X) (ex : List Int) (l : List R) : List R := l.map fun r => ⟨valL es ex r.v, r.t⟩
def parL (es : List X) (p : Int) (r : R) (l : List R) : List R := (l.filter fun o => hldB es p (r.v ++ o.v)).map fun o => ⟨r.v ++ o.v, linL (r.t ++ o.t)⟩
def padL (w : Nat) (r : R) : R := ⟨r.v ++ List.replicate w nul, r.t⟩
/-- one row with its partners -/
def oneJ (es : List X) (p : Int) (left : Bool) (w : Nat) (b : List R) (r : R) : List R := if (parL es p r b).length = 0 ∧ left = true then [padL w r] else parL es p r b
def jnL (es : List X) (p : Int) (left : Bool) (w : Nat) (a b : List R) : List R := a.flatMap (oneJ es p left w b)
abbrev Cl := List V × List R
/-- classes of rows, in the order of their first rows -/
def addC (f : R → List V) (cs : List Cl) (r : R) : List Cl := if cs.any (fun c => decide (c.1 = f r)) = true then cs.map (fun c => if c.1 = f r then (c.1, c.2 ++ [r]) else c) else cs ++ [(f r, [r])]
def clsF (f : R → List V) (l : List R) : List Cl := l.foldl (addC f) []
def timE (m n : Nat) : Nat := m - n
def timI (m n : Nat) : Nat := min m n
def cmbC (f : Nat → Nat → Nat) (a : List R) (c : Cl) : List R := List.replicate (f (cnt a c.1) (c.2.length - cnt a c.1)) ⟨c.1, linR c.2⟩
def minL (l : List V) : V := l.tail.foldl (fun m v => if cmpV v m < 0 then v else m) (l.headD nul)
def maxL (l : List V) : V := l.tail.foldl (fun m v => if 0 < cmpV v m then v else m) (l.headD nul)
def intL (l : List V) : List Int := (l.filter fun v => decide (v.k = 1)).map V.n
def sumL (l : List V) : V := if (intL l).length = 0 then nul else numV (intL l).sum
def agV (es : List X) (l : List R) (g : Int × Int) : V :=
  if g.1 = 1 then ⟨1, l.length, []⟩
  else
    let az := (l.map fun r => evlV es g.2 r.v).filter fun v => decide (v.k ≠ 0)
    if az.length = 0 then nul else if g.1 = 3 then minL az else if g.1 = 4 then maxL az else sumL az
def grpR (es : List X) (ag : List (Int × Int)) (c : Cl) : R := ⟨c.1 ++ ag.map (agV es c.2), linR c.2⟩
def oneC (ex : List Int) (cs : List Cl) : List Cl := if cs.length = 0 ∧ ex.length = 0 then [([], [])] else cs
structure Tb where
  t : Tt
  l : List R
instance : Inhabited Tb := ⟨⟨default, []⟩⟩
def scnL : List Tb → List UInt8 → List R
  | [], _ => []
  | t :: l, s => if t.t.s = s then t.l else scnL l s
def atL (l : List (List R)) (i : Int) : List R := l.getD i.toNat []
/-- the rows of a node, classes given by cl -/
def evN (cl : (R → List V) → List R → List Cl) (es : List X) (db : List Tb) (cols : List (List Int)) (n : Nd) (done : List (List R)) : List R :=
  if n.k = 1 then scnL db n.s
  else if n.k = 2 then selL es n.p (atL done n.a)
  else if n.k = 3 then prjL es n.ex (atL done n.a)
  else if n.k = 4 ∨ n.k = 5 then jnL es n.p (decide (n.k = 5)) (atC cols n.b).length (atL done n.a) (atL done n.b)
  else if n.k = 6 then atL done n.a ++ atL done n.b
  else if n.k = 7 then (cl R.v (atL done n.a ++ atL done n.b)).flatMap (cmbC timE (atL done n.a))
  else if n.k = 8 then (cl R.v (atL done n.a ++ atL done n.b)).flatMap (cmbC timI (atL done n.a))
  else if n.k = 10 then (oneC n.ex (cl (fun r => valL es n.ex r.v) (atL done n.a))).map (grpR es n.ag)
  else (cl R.v (atL done n.a)).map fun c => ⟨c.1, linR c.2⟩
def evsQ (cl : (R → List V) → List R → List Cl) (es : List X) (db : List Tb) (cols : List (List Int)) : List Nd → List (List R) → List (List R) × Int
  | [], done => (done, 0)
  | n :: l, done => if 4096 < (evN cl es db cols n done).length then ([], 12) else evsQ cl es db cols l (done ++ [evN cl es db cols n done])
/-- what Eval returns -/
def evQ (cl : (R → List V) → List R → List Cl) (es : List X) (db : List Tb) (l : List Nd) : List R × Int :=
  let c := colQ es (db.map Tb.t) l
  if c.2 ≠ 0 then ([], c.2)
  else if (evsQ cl es db c.1 l []).2 ≠ 0 then ([], (evsQ cl es db c.1 l []).2)
  else (sortR ((evsQ cl es db c.1 l []).1.getLastD []), 0)
end Go.Proofs.YtfojeajmonnifaaGreatDoor
/- Worlds that grow, with new blocks of whatever kind: what was there stays as it was. -/
namespace Go.Proofs.YtfojeajmonnifaaGreatDoor
open Go.ChangeShapes Go.WideShapes Go.ChangeAt Go.RowKit

/-- what was there stays as it was -/
def Ext (w w' : World) : Prop := w.keptBut w' (fun _ => False) ∧ (∀ a : Addr, a.block < w.heap.size → w'.frozen? a = w.frozen? a) ∧ w.heap.size ≤ w'.heap.size
theorem Ext.refl (w : World) : Ext w w := ⟨World.keptBut_refl _ _, fun _ _ => rfl, Nat.le_refl _⟩
theorem ext_of_grown {w w' : World} (h : Grown w w') : Ext w w' := ⟨h.1, fun a _ => h.2.1 a, h.2.2⟩
theorem Ext.trans {a b c : World} (h : Ext a b) (k : Ext b c) : Ext a c :=
  ⟨World.keptBut_trans h.1 (World.keptBut_mono (fun _ f => f.elim) k.1), fun x hx => (k.2.1 x (Nat.lt_of_lt_of_le hx h.2.2)).trans (h.2.1 x hx), Nat.le_trans h.2.2 k.2.2⟩
theorem ext_of_below {w w' : World} (h : Below w.heap.size w w') : Ext w w' := ⟨h.frame _, fun _ hx => h.frozen hx, h.size⟩
theorem Ext.cell {w w' : World} (h : Ext w w') {b o : Nat} (hb : b < w.heap.size) : w'.cell? ⟨b, o, none⟩ = w.cell? ⟨b, o, none⟩ := World.keptBut.cell h.1 hb (fun f => f)
theorem Ext.keeps {w w' : World} (h : Ext w w') {b o : Nat} {v : Value} (c : w.cell? ⟨b, o, none⟩ = some v) : w'.cell? ⟨b, o, none⟩ = some v := by
  rw [h.cell (World.block_lt_of_cell? _ _ c)]; exact c
theorem Ext.block {w w' : World} (h : Ext w w') {g : Nat} {cur : Array Value} {e : TypeId} {fr : Nat × Nat} (hg : w.heap[g]? = some (.cells cur e fr)) : w'.heap[g]? = some (.cells cur e fr) := by
  have hlt : g < w.heap.size := (Array.getElem?_eq_some_iff.1 hg).1
  have hk := h.1.2.2 g hlt
  rw [hg] at hk
  cases hw : w'.heap[g]? with
  | none => rw [hw] at hk; exact hk
  | some o =>
    rw [hw] at hk
    cases o with
    | cells c' t' fr' =>
      obtain ⟨rfl, rfl, hs, hj⟩ := hk
      have : c' = cur := Array.ext_getElem? (fun j => hj j (fun f => f))
      rw [this]
    | _ => exact hk
theorem Ext.owns {w w' : World} (h : Ext w w') {base : Nat} {e : TypeId} {size : Nat} {v : Value} {n : Nat} {xs : List Value} (ho : w.ownsRow base e size v n xs) : w'.ownsRow base e size v n xs := by
  obtain ⟨h1, h2⟩ := ho
  refine ⟨h1, ?_⟩
  rcases h2 with h2 | ⟨g, cap, cur, hv, hg, hh, r⟩
  · exact Or.inl h2
  · exact Or.inr ⟨g, cap, cur, hv, hg, h.block hh, r⟩
theorem owns_zero {w : World} {base : Nat} {e : TypeId} {size : Nat} {v : Value} {n : Nat} {xs : List Value} (ho : w.ownsRow base e size v n xs) : w.ownsRow 0 e size v n xs := by
  obtain ⟨h1, h2⟩ := ho
  refine ⟨h1, ?_⟩
  rcases h2 with h2 | ⟨g, cap, cur, hv, hg, hh, r⟩
  · exact Or.inl h2
  · exact Or.inr ⟨g, cap, cur, hv, Nat.zero_le _, hh, r⟩
end Go.Proofs.YtfojeajmonnifaaGreatDoor
/- Periods as values; what a world holds behind a call that leaves what was there as it was. -/
namespace Go.Proofs.YtfojeajmonnifaaGreatDoor
open Go.ChangeShapes Go.WideShapes Go.ChangeAt Go.RowKit

abbrev pv (a b : Int) : Value := .agg #[.int .i64 a, .int .i64 b]
theorem gcell {W w1 : World} (hg : Grown W w1) : (∀ b o, b < W.heap.size → w1.cell? ⟨b, o, none⟩ = W.cell? ⟨b, o, none⟩) ∧ (∀ a, w1.frozen? a = W.frozen? a) :=
  ⟨fun _ _ h => World.keptBut.cell hg.1 h (fun f => f), hg.2.1⟩

/-- a call that only grows the world leaves what an elder world held -/
theorem heldW {N : Nat} {args : Array Value} {w : World} {R : Ending} (W0 : World) (h : Calls Tryz.prog N args w fun e w' => e = R ∧ Grown w w') (hG : Grown W0 w) :
    Calls Tryz.prog N args w fun e w' => e = R ∧ (∀ b o, b < W0.heap.size → w'.cell? ⟨b, o, none⟩ = W0.cell? ⟨b, o, none⟩) ∧ (∀ a, w'.frozen? a = W0.frozen? a) ∧ Grown W0 w' :=
  h.mono fun _ _ ⟨he, hg⟩ => ⟨he, (gcell (grown_trans hG hg)).1, (gcell (grown_trans hG hg)).2, grown_trans hG hg⟩
theorem frozen_new (w : World) (b o : Nat) (h : w.heap.size ≤ b) : w.frozen? ⟨b, o, none⟩ = false := by
  simp [World.frozen?, Array.getElem?_eq_none h]
theorem al0 (w : World) (a b : Value) (t : TypeId) : (w.alloc (.cells #[a, b] t)).cell? ⟨w.heap.size, 0, none⟩ = some a := by rw [World.cell?, (MapKept.heap_alloc w _).1]; rfl
theorem al1 (w : World) (a b : Value) (t : TypeId) : (w.alloc (.cells #[a, b] t)).cell? ⟨w.heap.size, 1, none⟩ = some b := by rw [World.cell?, (MapKept.heap_alloc w _).1]; rfl
theorem alsz (w : World) (o : Obj) : (w.alloc o).heap.size = w.heap.size + 1 := by simp
theorem kept {w w' : World} (hg : Grown w w') {b o : Nat} {v : Value} (h : w.cell? ⟨b, o, none⟩ = some v) : w'.cell? ⟨b, o, none⟩ = some v := by
  rw [(gcell hg).1 _ _ (World.block_lt_of_cell? _ _ h)]; exact h

theorem Ext.alloc {w X : World} (h : Ext w X) (c : Array Value) (t : TypeId) : Ext w (X.alloc (.cells c t)) := h.trans (ext_of_grown ((Grown.refl _).alloc _ _))
theorem Ext.setNew {w X : World} (h : Ext w X) (b o : Nat) (hb : w.heap.size ≤ b) (v : Value) : Ext w (X.setCell ⟨b, o, none⟩ v) := by
  have hk : ∀ i, i < w.heap.size → (X.setCell ⟨b, o, none⟩ v).heap[i]? = X.heap[i]? := fun i hi => Below.heap_setCell _ _ _ _ (by show i ≠ b; omega)
  refine ⟨⟨h.1.1, h.1.2.1, fun i hi => ?_⟩, fun a ha => (World.frozen?_of_block (hk _ ha)).trans (h.2.1 a ha), by simpa [World.setCell] using h.2.2⟩
  rw [hk i hi]
  exact h.1.2.2 i hi
/-- the same with new blocks of whatever kind; S: what the elder world held -/
theorem heldE {N : Nat} {args : Array Value} {w : World} {R : Ending} (W0 : World) (h : Calls Tryz.prog N args w fun e w' => e = R ∧ Ext w w') (hG : Ext W0 w) :
    Calls Tryz.prog N args w fun e w' => e = R ∧ (∀ b o, b < W0.heap.size → w'.cell? ⟨b, o, none⟩ = W0.cell? ⟨b, o, none⟩) ∧ Ext W0 w' :=
  h.mono fun _ _ ⟨he, hg⟩ => ⟨he, fun _ _ hb => (hG.trans hg).cell hb, hG.trans hg⟩
theorem Ext.drew {w X : World} (h : Ext w X) : Ext w X.drew := ⟨h.1, h.2.1, h.2.2⟩
end Go.Proofs.YtfojeajmonnifaaGreatDoor
/- Worlds that only grow by new blocks and draws. -/
namespace Go.Proofs.YtfojeajmonnifaaGreatDoor
open Go.ChangeShapes Go.WideShapes Go.ChangeAt Go.RowKit Go.Sort

def Gw (w w' : World) : Prop := ∃ q os, w' = grow (w.drewN q) os
theorem Gw.refl (w : World) : Gw w w := ⟨0, #[], by rw [grow_empty]; rfl⟩
theorem Gw.trans {a b c : World} (h : Gw a b) (k : Gw b c) : Gw a c := by
  obtain ⟨q, os, rfl⟩ := h
  obtain ⟨r, ot, rfl⟩ := k
  refine ⟨q + r, os ++ ot, ?_⟩
  unfold grow World.drewN
  simp [Nat.add_assoc, Array.append_assoc]
theorem Gw.alloc {w X : World} (h : Gw w X) (o : Obj) : Gw w (X.alloc o) := h.trans ⟨0, #[o], by rw [alloc_eq_grow]; rfl⟩
theorem Gw.drew {w X : World} (h : Gw w X) : Gw w X.drew := h.trans ⟨1, #[], by rw [grow_empty]; rfl⟩
theorem Gw.ext {w w' : World} (h : Gw w w') : Ext w w' := by
  obtain ⟨q, os, rfl⟩ := h
  have hk : ∀ i, i < w.heap.size → (grow (w.drewN q) os).heap[i]? = w.heap[i]? := fun i hi => heap_grow_old (w.drewN q) os hi
  refine ⟨⟨rfl, rfl, fun i hi => ?_⟩, fun a ha => World.frozen?_of_block (hk _ ha), ?_⟩
  · rw [hk i hi]
    have := (World.keptBut_refl w (fun _ => False)).2.2 i hi
    exact this
  · show w.heap.size ≤ (grow (w.drewN q) os).heap.size
    rw [size_grow]; exact Nat.le_add_right _ _
end Go.Proofs.YtfojeajmonnifaaGreatDoor
/- What stays when a row of the call's own grows. -/
namespace Go.Proofs.YtfojeajmonnifaaGreatDoor
open Go.ChangeShapes Go.WideShapes Go.ChangeAt Go.RowKit

theorem ext_grownBy {w X w5 : World} {row : Option Nat} (h : Ext w X) (hg : X.grownBy w5 row) (hr : ∀ k, row = some k → w.heap.size ≤ k) : Ext w w5 := by
  have hb : ∀ i, i < w.heap.size → w5.heap[i]? = X.heap[i]? := fun i hi => hg.block i (Nat.lt_of_lt_of_le hi h.2.2) (fun e => by have := hr i e.symm; omega)
  refine ⟨⟨hg.os.trans h.1.1, hg.output.trans h.1.2.1, fun i hi => ?_⟩, fun a ha => (World.frozen?_of_block (hb _ ha)).trans (h.2.1 a ha), Nat.le_trans h.2.2 hg.size⟩
  rw [hb i hi]
  exact h.1.2.2 i hi

def lenOf : Value → Nat | .slice _ n _ => n | _ => 0
theorem owns_len {w : World} {base : Nat} {e : TypeId} {size : Nat} {v : Value} {n : Nat} {xs : List Value} (ho : w.ownsRow base e size v n xs) : lenOf v = n := by
  rcases ho.2 with ⟨rfl, rfl⟩ | ⟨g, cap, cur, rfl, _⟩ <;> rfl

theorem grow_cell {X Y : World} {row : Option Nat} (hg : X.grownBy Y row) {b o : Nat} {v : Value} (h : X.cell? ⟨b, o, none⟩ = some v) (hne : ∀ k, row = some k → k ≠ b) : Y.cell? ⟨b, o, none⟩ = some v := by
  rw [World.cell?_of_block (hg.block b (World.block_lt_of_cell? _ _ h) (fun e => hne b e.symm rfl))]; exact h
theorem grow_frozen {X Y : World} {row : Option Nat} (hg : X.grownBy Y row) {b o : Nat} (hb : b < X.heap.size) (h : X.frozen? ⟨b, o, none⟩ = false) (hne : ∀ k, row = some k → k ≠ b) : Y.frozen? ⟨b, o, none⟩ = false := by
  rw [World.frozen?_of_block (hg.block b hb (fun e => hne b e.symm rfl))]; exact h
theorem al2_frozen (w : World) (c d : Array Value) (t u : TypeId) (a : Addr) : ((w.alloc (.cells c t)).alloc (.cells d u)).frozen? a = w.frozen? a := by
  rw [frozen?_alloc_cells, frozen?_alloc_cells]
theorem al2_grown (w : World) (c d : Array Value) (t u : TypeId) : Grown w ((w.alloc (.cells c t)).alloc (.cells d u)) := ((Grown.refl _).alloc _ _).alloc _ _

theorem ext_below {W w w' : World} (h : Ext W w) (k : Below W.heap.size w w') : Ext W w' := by
  have hb : ∀ i, i < W.heap.size → w'.heap[i]? = w.heap[i]? := fun i hi => k.block i hi
  refine ⟨⟨k.os.trans h.1.1, k.output.trans h.1.2.1, fun i hi => ?_⟩, fun a ha => (World.frozen?_of_block (hb _ ha)).trans (h.2.1 a ha), Nat.le_trans h.2.2 k.size⟩
  rw [hb i hi]
  exact h.1.2.2 i hi
end Go.Proofs.YtfojeajmonnifaaGreatDoor
