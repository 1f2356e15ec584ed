/- Slices of values that are only read; boxes of values. -/
import Derived.Test.YtejgmiljjpgbpaaDoorVw3
import Derived.Deep.QuietTactic
import Derived.BigQuiet
namespace Go.Proofs.YtejgmiljjpgbpaaDoor
open Go.ChangeShapes Go.WideShapes Go.ChangeAt Go.RowKit

/-- the value is a slice whose cells hold these values -/
def RdV (w : World) (v : Value) (l : List V) : Prop :=
  ∃ ad cap, v = .slice ad l.length cap ∧ l.length ≤ cap ∧ cap ≤ maxLen ∧ (ad = none → cap = 0) ∧
    ∀ (i : Nat) (h : i < l.length), ∃ g o, ad = some ⟨g, o, none⟩ ∧ w.cell? ⟨g, o + i * 3, none⟩ = some (.int .i64 l[i].k) ∧ w.cell? ⟨g, o + i * 3 + 1, none⟩ = some (.int .i64 l[i].n) ∧ w.cell? ⟨g, o + i * 3 + 2, none⟩ = some (sv l[i].s)
theorem RdV.ext {w w' : World} {v : Value} {l : List V} (h : RdV w v l) (e : Ext w w') : RdV w' v l := by
  obtain ⟨ad, cap, rfl, h1, h2, h3, h4⟩ := h
  refine ⟨ad, cap, rfl, h1, h2, h3, fun i hi => ?_⟩
  obtain ⟨g, o, rfl, c0, c1, c2⟩ := h4 i hi
  exact ⟨g, o, rfl, e.keeps c0, e.keeps c1, e.keeps c2⟩
theorem rdV_nil (w : World) : RdV w (.slice none 0 0) [] := ⟨none, 0, rfl, Nat.le_refl _, Nat.zero_le _, fun _ => rfl, fun i h => by simp at h⟩
/-- the numbers fit their kinds -/
def OkL (l : List V) : Prop := ∀ (i : Nat) (h : i < l.length), -9223372036854775808 ≤ l[i].k ∧ l[i].k ≤ 9223372036854775807 ∧ -9223372036854775808 ≤ l[i].n ∧ l[i].n ≤ 9223372036854775807
/-- a box of a value -/
def Box (w : World) (b : Nat) (v : V) : Prop := w.heap[b]? = some (.cells #[.int .i64 v.k, .int .i64 v.n, sv v.s] 23 (0, 0))
theorem Box.new (w : World) (v : V) : Box (w.alloc (.cells #[.int .i64 v.k, .int .i64 v.n, sv v.s] 23)) w.heap.size v := (MapKept.heap_alloc w _).1
theorem Box.lt {w : World} {b : Nat} {v : V} (h : Box w b v) : b < w.heap.size := (Array.getElem?_eq_some_iff.1 h).1
theorem Box.c0 {w : World} {b : Nat} {v : V} (h : Box w b v) : w.cell? ⟨b, 0, none⟩ = some (.int .i64 v.k) := by unfold Box at h; rw [World.cell?, h]; rfl
theorem Box.c1 {w : World} {b : Nat} {v : V} (h : Box w b v) : w.cell? ⟨b, 1, none⟩ = some (.int .i64 v.n) := by unfold Box at h; rw [World.cell?, h]; rfl
theorem Box.c2 {w : World} {b : Nat} {v : V} (h : Box w b v) : w.cell? ⟨b, 2, none⟩ = some (sv v.s) := by unfold Box at h; rw [World.cell?, h]; rfl
theorem Box.alloc {w : World} {b : Nat} {v : V} (h : Box w b v) (o : Obj) : Box (w.alloc o) b v := by
  have hl := h.lt
  unfold Box at *; rw [Below.heap_alloc _ _ _ hl]; exact h
theorem Box.others {w w' : World} {b : Nat} {v : V} (h : Box w b v) (k : Lib.OthersKept 5 none w w') : Box w' b v :=
  k b _ h (by simp) (fun c fz e => by injection e with _ e; exact absurd e (by decide))
theorem OwnB.ne {W w : World} {v : Value} {l : List UInt8} (hO : OwnB W w v l) {b : Nat} {u : V} (h : Box w b u) : v.ownBlock ≠ some b := by
  rcases hO.1.2 with ⟨rfl, _⟩ | ⟨g, cap, cur, rfl, hb, hg, _⟩
  · simp [Value.ownBlock]
  · intro e
    simp only [Value.ownBlock, Option.some.injEq] at e
    subst e
    unfold Box at h
    rw [hg] at h
    injection h with h
    injection h with _ h
    exact absurd h (by decide)
theorem Box.grow {W w w' : World} {v : Value} {l : List UInt8} {b : Nat} {u : V} (h : Box w b u) (hO : OwnB W w v l) (hg : w.grownBy w' v.ownBlock) : Box w' b u := by
  have hl := h.lt
  have hn := hO.ne h
  unfold Box at *
  rw [hg.block b hl (fun e => hn e.symm)]; exact h
def AiP (W w : World) (l : List UInt8) (i : Int) (e : Ending) (w' : World) : Prop := ∃ v', e = .returned v' ∧ OwnB W w' v' (l ++ Lib.itoa i) ∧ Lib.OthersKept 5 none w w'
theorem ai_call (W w : World) (v : Value) (l : List UInt8) (i : Int) (hO : OwnB W w v l) (hT : PT W) (h0 : -9223372036854775808 ≤ i) (h1 : i ≤ 9223372036854775807) (hlim : l.length + 21 ≤ 140737488355328) :
    Calls Tryd.prog 34 #[v, .int .i64 i, .int .i64 10] w (AiP W w l i) := by
  refine (Tryd.strconv_AppendInt_10 W.heap.size l.length i h0 h1 v (Lib.byteCells l) w hO.1 hO.2.2.2 hlim (hT.below hO.2)).mono ?_
  rintro e w' ⟨v', rfl, ho, hb, hk⟩
  refine ⟨v', rfl, ⟨?_, ext_below hO.2 hb⟩, hk⟩
  rw [bc_app, List.length_append]; exact ho
end Go.Proofs.YtejgmiljjpgbpaaDoor
