/- append of a slice that is read to a row of the call's own. -/
import Derived.Laws.OwnMore
import Derived.OwnWalk
import Derived.Test.YtnckdopphimgoaaZz01
import Derived.Test.YtnckdopphimgoaaZz11
import Derived.Test.YtnckdopphimgoaaZz12
namespace Go.Proofs.Ytnckdopphimgoaa
open Go.ChangeShapes Go.WideShapes Go.ChangeAt Go.RowKit

theorem rd_lit1 (Y : World) (x y : Int) (t : TypeId) (n : Nat) (h : Y.heap.size = n) : Rd (Y.alloc (.cells #[.int .i64 x, .int .i64 y] t)) (.slice (some ⟨n, 0, none⟩) 1 1) [(x, y)] := by
  subst h
  refine ⟨_, 1, rfl, Nat.le_refl _, (by unfold maxLen; omega), (fun h => by cases h), fun i hi => ⟨_, 0, rfl, ?_⟩⟩
  have : i = 0 := by simpa using hi
  subst this
  exact ⟨al0 _ _ _ _, al1 _ _ _ _⟩
/-- a row of the call's own: new behind W -/
def Own (W w : World) (v : Value) (l : List (Int × Int)) : Prop := w.ownsRow W.heap.size 28 2 v l.length (cellsL l) ∧ Ext W w
theorem Own.nil (W w : World) (h : Ext W w) : Own W w (.slice none 0 0) [] := ⟨World.ownsRow_nil _ _ _ _, h⟩
theorem Own.ext {W w w' : World} {v : Value} {l : List (Int × Int)} (h : Own W w v l) (e : Ext w w') : Own W w' v l := ⟨e.owns h.1, h.2.trans e⟩
theorem Own.rd {W w : World} {v : Value} {l : List (Int × Int)} (h : Own W w v l) : Rd w v l := rd_of_owns h.1
theorem Own.zero {W w : World} {v : Value} {l : List (Int × Int)} (h : Own W w v l) : w.ownsRow 0 28 2 v l.length (cellsL l) := owns_zero h.1
theorem Own.grow {W w w' : World} {v v' : Value} {l m : List (Int × Int)} (h : Own W w v l) (hg : w.grownBy w' v.ownBlock) (ho : w'.ownsRow W.heap.size 28 2 v' m.length (cellsL m)) : Own W w' v' m :=
  ⟨ho, ext_grownBy h.2 hg (fun k hk => (h.1.lt k hk).1)⟩
/-- what lies in other blocks stays -/
theorem Own.far {W w w' : World} {v : Value} {l : List (Int × Int)} (h : Own W w v l) (hg : w.grownBy w' v.ownBlock) {b o : Nat} {u : Value} (hb : b < W.heap.size) (hc : w.cell? ⟨b, o, none⟩ = some u) : w'.cell? ⟨b, o, none⟩ = some u :=
  grow_cell hg hc (fun k hk => by have := (h.1.lt k hk).1; omega)
theorem appR {w : World} {ops : Array Oper} {rest : List Oper} {o : Oper} {a : Act} {Q : Exit → Act → World → Prop} (hgd : o.guard = none) (s x : Operand)
    (ho : o.op = .call { callee := .builtin .append, args := #[s, x], argTypes := #[58, 58] })
    (W : World) (v : Value) (l : List (Int × Int)) (hs : a.eval s = v) (hown : Own W w v l) (vx : Value) (m : List (Int × Int)) (hx : a.eval x = vx) (hrd : Rd w vx m) (hlen : l.length + m.length ≤ 8796093022208)
    (h : ∀ v' w', Own W w' v' (l ++ m) → w.grownBy w' v.ownBlock → wpList Try.prog ops Q rest (a.put o.dst v') w') : wpList Try.prog ops Q (o :: rest) a w := by
  obtain ⟨i0, hi, hz0, hz1, hz2⟩ := info_parts infoP
  obtain ⟨ad, cap, rfl, h1, h2, h3, h4⟩ := hrd
  cases ad with
  | some ad =>
    refine wpList_append_own w hgd s x 58 ho W.heap.size 28 i0 (.agg #[.int .i64 0, .int .i64 0]) 2 16 Try.underlying58 hi hz0 hz1 hz2 rfl (by decide) v l.length (cellsL l) hs hown.1 ad m.length cap (cellsL m) hx (cellsL_len m)
      (Rd.news ⟨some ad, cap, rfl, h1, h2, h3, h4⟩) (cellsL_one m) (by unfold maxLen; omega) (by omega) hown.2.2.2 ?_
    intro v' w' ho' hg' _
    refine h v' w' (hown.grow hg' ?_) hg'
    rw [cellsL_append, List.length_append]; exact ho'
  | none =>
    have hm : m = [] := List.eq_nil_of_length_eq_zero (by have := h3 rfl; omega)
    subst hm
    obtain rfl := h3 rfl
    refine wpList_plain hgd fun K hK' => ?_
    have hrun := run_append_owned_none (P := Try.prog) w W.heap.size 58 o.type 28 i0 2 Try.underlying58 hi _ l.length (cellsL l) hown.1
    unfold Oper.wp
    simp only [List.length_nil] at hx
    simp [execOp, ho, resolve, invoke, builtin, hs, hx, hrun, Result.andThen]
    exact hK' _ _ (h v w (by simpa using hown) (World.grownBy.refl _ _))
/-- the same at one operation -/
theorem wp_appR {w : World} {o : Oper} {a : Act} {K : Act → World → Prop} {Q : Exit → Act → World → Prop} (s x : Operand)
    (ho : o.op = .call { callee := .builtin .append, args := #[s, x], argTypes := #[58, 58] })
    (W : World) (v : Value) (l : List (Int × Int)) (hs : a.eval s = v) (hown : Own W w v l) (vx : Value) (m : List (Int × Int)) (hx : a.eval x = vx) (hrd : Rd w vx m) (hlen : l.length + m.length ≤ 8796093022208)
    (h : ∀ v' w', Own W w' v' (l ++ m) → w.grownBy w' v.ownBlock → K (a.put o.dst v') w') : o.wp Try.prog a w K Q := by
  obtain ⟨i0, hi, hz0, hz1, hz2⟩ := info_parts infoP
  obtain ⟨ad, cap, rfl, h1, h2, h3, h4⟩ := hrd
  cases ad with
  | some ad =>
    obtain ⟨v', w', hr, ho', hg', _⟩ := run_append_own (P := Try.prog) w W.heap.size 58 o.type 28 i0 (.agg #[.int .i64 0, .int .i64 0]) 2 16 Try.underlying58 hi hz0 hz1 hz2 rfl (by decide) v l.length (cellsL l) hown.1 ad m.length cap (cellsL m) (cellsL_len m)
      (Rd.news ⟨some ad, cap, rfl, h1, h2, h3, h4⟩) (cellsL_one m) (by unfold maxLen; omega) (by omega) hown.2.2.2
    unfold Oper.wp execOp
    simp only [ho, resolve, invoke, builtin, Sem.run_bind, Sem.run_pure, Result.andThen_ok, List.map_toArray, List.map_cons, List.map_nil, hs, hx, hr]
    refine h v' w' (hown.grow hg' ?_) hg'
    rw [cellsL_append, List.length_append]; exact ho'
  | none =>
    have hm : m = [] := List.eq_nil_of_length_eq_zero (by have := h3 rfl; omega)
    subst hm
    obtain rfl := h3 rfl
    have hrun := run_append_owned_none (P := Try.prog) w W.heap.size 58 o.type 28 i0 2 Try.underlying58 hi _ l.length (cellsL l) hown.1
    unfold Oper.wp
    simp only [List.length_nil] at hx
    simp [execOp, ho, resolve, invoke, builtin, hs, hx, hrun, Result.andThen]
    exact h v w (by simpa using hown) (World.grownBy.refl _ _)
/-- at a step of a region that draws its order, with a base of one's own -/
theorem step_appB {w : World} {ops : Array Oper} {o : Oper} {a : Act} {K : Act → World → Prop} {Q : Exit → Act → World → Prop} {E : Prop} (hgd : o.guard = none) (s x : Operand)
    (ho : o.op = .call { callee := .builtin .append, args := #[s, x], argTypes := #[58, 58] })
    (base : Nat) (v : Value) (l : List (Int × Int)) (hs : a.eval s = v) (hown : w.ownsRow base 28 2 v l.length (cellsL l)) (hbase : base ≤ w.heap.size) (vx : Value) (m : List (Int × Int)) (hx : a.eval x = vx) (hrd : Rd w vx m) (hlen : l.length + m.length ≤ 8796093022208)
    (h : ∀ v' w', w'.ownsRow base 28 2 v' (l ++ m).length (cellsL (l ++ m)) → w.grownBy w' v.ownBlock → K (a.put o.dst v') w') :
    if Region.wanted o (yielded ops a.tmps) = true then Oper.wp Try.prog o a w K Q else E := by
  have hw : Region.wanted o (yielded ops a.tmps) = true := by simp [Region.wanted, hgd]
  rw [if_pos hw]
  obtain ⟨i0, hi, hz0, hz1, hz2⟩ := info_parts infoP
  obtain ⟨ad, cap, rfl, h1, h2, h3, h4⟩ := hrd
  cases ad with
  | some ad =>
    obtain ⟨v', w', hr, ho', hg', _⟩ := run_append_own (P := Try.prog) w base 58 o.type 28 i0 (.agg #[.int .i64 0, .int .i64 0]) 2 16 Try.underlying58 hi hz0 hz1 hz2 rfl (by decide) v l.length (cellsL l) hown ad m.length cap (cellsL m) (cellsL_len m)
      (Rd.news ⟨some ad, cap, rfl, h1, h2, h3, h4⟩) (cellsL_one m) (by unfold maxLen; omega) (by omega) hbase
    unfold Oper.wp execOp
    simp only [ho, resolve, invoke, builtin, Sem.run_bind, Sem.run_pure, Result.andThen_ok, List.map_toArray, List.map_cons, List.map_nil, hs, hx, hr]
    refine h v' w' ?_ hg'
    rw [cellsL_append, List.length_append]; exact ho'
  | none =>
    have hm : m = [] := List.eq_nil_of_length_eq_zero (by have := h3 rfl; omega)
    subst hm
    obtain rfl := h3 rfl
    have hrun := run_append_owned_none (P := Try.prog) w base 58 o.type 28 i0 2 Try.underlying58 hi _ l.length (cellsL l) hown
    unfold Oper.wp
    simp only [List.length_nil] at hx
    simp [execOp, ho, resolve, invoke, builtin, hs, hx, hrun, Result.andThen]
    exact h v w (by simpa using hown) (World.grownBy.refl _ _)
/-- at a step of a region that draws its order -/
theorem step_appR {w : World} {ops : Array Oper} {o : Oper} {a : Act} {K : Act → World → Prop} {Q : Exit → Act → World → Prop} {E : Prop} (hgd : o.guard = none) (s x : Operand)
    (ho : o.op = .call { callee := .builtin .append, args := #[s, x], argTypes := #[58, 58] })
    (W : World) (v : Value) (l : List (Int × Int)) (hs : a.eval s = v) (hown : Own W w v l) (vx : Value) (m : List (Int × Int)) (hx : a.eval x = vx) (hrd : Rd w vx m) (hlen : l.length + m.length ≤ 8796093022208)
    (h : ∀ v' w', Own W w' v' (l ++ m) → w.grownBy w' v.ownBlock → K (a.put o.dst v') w') :
    if Region.wanted o (yielded ops a.tmps) = true then Oper.wp Try.prog o a w K Q else E := by
  have hw : Region.wanted o (yielded ops a.tmps) = true := by simp [Region.wanted, hgd]
  rw [if_pos hw]
  exact wp_appR s x ho W v l hs hown vx m hx hrd hlen h
end Go.Proofs.Ytnckdopphimgoaa
/- Cells set one by one: what stays. A row of the call's own that the code writes out. -/
namespace Go.Proofs.Ytnckdopphimgoaa
open Go.ChangeShapes Go.WideShapes Go.ChangeAt Go.RowKit

theorem own_litB {α : Type} [Enc α] (e : TypeId) {W X : World} (h : Ext W X) (l : List α) (c : Array Value) (n k : Nat) (hn : n = X.heap.size) (hk : k = l.length) (hl : l.length ≤ 1000) (hc : c.toList = cellsG l) : OwnG e W (X.alloc (.cells c e)) (.slice (some ⟨n, 0, none⟩) k k) l := by
  subst hn hk
  have hs : c.size = l.length * Enc.sz α := by rw [← Array.length_toList, hc, cellsG_len]
  have := World.ownsRow_lit (base := W.heap.size) (e := e) (size := Enc.sz α) X c l.length h.2.2 (by unfold maxLen; omega) hs
  rw [hc] at this
  exact ⟨this, h.alloc _ _⟩
theorem grw_set (w : World) (b j : Nat) (u : Value) : Grw w (w.setCell ⟨b, j, none⟩ u) (some b) :=
  ⟨rfl, rfl, by simp [World.setCell], fun k _ hn => Below.heap_setCell _ _ _ _ (by show k ≠ b; exact fun e => hn (by rw [e]))⟩
theorem own_set {α : Type} [Enc α] {e : TypeId} {W w : World} {v : Value} {l : List α} (h : OwnG e W w v l) (b j : Nat) (u : Value) (hb : W.heap.size ≤ b) (hn : ∀ g, v.ownBlock = some g → g ≠ b) : OwnG e W (w.setCell ⟨b, j, none⟩ u) v l := by
  refine ⟨owns_grw h.1 (grw_set w b j u) ?_, h.2.setNew b j hb u⟩
  cases hv : v.ownBlock with
  | none => exact .inl rfl
  | some g => exact .inr (fun e => hn g hv (by injection e))
theorem own_set4 {α : Type} [Enc α] {e : TypeId} {W w : World} {v : Value} {l : List α} (h : OwnG e W w v l) (b : Nat) (p q r s : Value) (hb : W.heap.size ≤ b) (hn : ∀ g, v.ownBlock = some g → g ≠ b) : OwnG e W ((((w.setCell ⟨b, 0, none⟩ p).setCell ⟨b, 1, none⟩ q).setCell ⟨b, 2, none⟩ r).setCell ⟨b, 3, none⟩ s) v l :=
  own_set (own_set (own_set (own_set h b 0 p hb hn) b 1 q hb hn) b 2 r hb hn) b 3 s hb hn
theorem set4_cell {X : World} {b b' o : Nat} {p q r s v : Value} (hne : b' ≠ b) (h : X.cell? ⟨b', o, none⟩ = some v) : ((((X.setCell ⟨b, 0, none⟩ p).setCell ⟨b, 1, none⟩ q).setCell ⟨b, 2, none⟩ r).setCell ⟨b, 3, none⟩ s).cell? ⟨b', o, none⟩ = some v := by
  have hk : ∀ (Y : World) (j : Nat) (u : Value), (Y.setCell ⟨b, j, none⟩ u).cell? ⟨b', o, none⟩ = Y.cell? ⟨b', o, none⟩ := fun Y j u => World.cell?_of_block (Below.heap_setCell _ _ _ _ (by show b' ≠ b; exact hne))
  rw [hk, hk, hk, hk]; exact h
theorem own_ne {α : Type} [Enc α] {e : TypeId} {W w : World} {v : Value} {l : List α} (h : OwnG e W w v l) (b : Nat) (hb : b < W.heap.size) : ∀ g, v.ownBlock = some g → g ≠ b := fun g hg e => by
  have := (h.blk g hg).1; omega
end Go.Proofs.Ytnckdopphimgoaa
