/- A sorted list without its repetitions is ascending. -/
import Derived.Lib.SlicesCompact
import Derived.Deep.QuietTactic
import Derived.BigQuiet
import Derived.Laws.OwnMore
import Derived.OwnWalk
import Derived.Test.YtnckdopphimgoaaGreatZz01
import Derived.Test.YtnckdopphimgoaaGreatZz04
import Derived.Test.YtnckdopphimgoaaGreatZz08
namespace Go.Proofs.YtnckdopphimgoaaGreat

theorem cut_asc (d : Array Int) (hs : ∀ i j, i ≤ j → j < d.size → d[i]! ≤ d[j]!) : ∀ m, m ≤ d.size → Asc (Lib.compactUpTo d m) ∧ (∀ c, c ∈ Lib.compactUpTo d m ↔ ∃ j, j < m ∧ d[j]! = c)
  | 0, _ => by simp [Lib.compactUpTo, Asc]
  | m + 1, hm => by
    obtain ⟨h1, h2⟩ := cut_asc d hs m (by omega)
    rw [Lib.compactUpTo_succ]
    by_cases hz : 0 < m ∧ d[m]! = d[m - 1]!
    · rw [Lib.keeps_neg hz.1 hz.2]
      simp only [Bool.false_eq_true, if_false, List.append_nil]
      refine ⟨h1, fun c => (h2 c).trans ⟨fun ⟨j, hj, e⟩ => ⟨j, by omega, e⟩, fun ⟨j, hj, e⟩ => ?_⟩⟩
      by_cases hjm : j = m
      · subst hjm; exact ⟨j - 1, by omega, by rw [← hz.2]; exact e⟩
      · exact ⟨j, by omega, e⟩
    · have hk : Lib.keeps d m = true := by
        by_cases h0 : 0 < m
        · exact Lib.keeps_pos (fun e => hz ⟨h0, e⟩)
        · exact Lib.keeps_lt_one d m (by omega)
      rw [hk]
      simp only [if_true]
      constructor
      · refine List.pairwise_append.2 ⟨h1, by simp, fun x hx y hy => ?_⟩
        obtain ⟨j, hj, e⟩ := (h2 x).1 hx
        have hy' : y = d[m]! := by simpa using hy
        subst hy' e
        have a1 := hs j (m - 1) (by omega) (by omega)
        have a2 := hs (m - 1) m (by omega) (by omega)
        have a3 : d[m]! ≠ d[m - 1]! := fun e => hz ⟨by omega, e⟩
        omega
      · intro c
        rw [List.mem_append, h2 c]
        simp only [List.mem_singleton]
        constructor
        · rintro (⟨j, hj, e⟩ | e)
          · exact ⟨j, by omega, e⟩
          · exact ⟨m, by omega, e.symm⟩
        · rintro ⟨j, hj, e⟩
          by_cases hjm : j = m
          · subst hjm; exact Or.inr e.symm
          · exact Or.inl ⟨j, by omega, e⟩
theorem sort_cut (zs : List Int) : Asc (Lib.compact (zs.mergeSort fun x y => decide (x ≤ y))) ∧ (∀ c, c ∈ Lib.compact (zs.mergeSort fun x y => decide (x ≤ y)) ↔ c ∈ zs) := by
  have hp := List.mergeSort_perm zs (fun x y => decide (x ≤ y))
  have hs := List.pairwise_mergeSort (le := fun (x y : Int) => decide (x ≤ y)) (by intro a b c; simp; omega) (by intro a b; simp; omega) zs
  generalize zs.mergeSort (fun x y => decide (x ≤ y)) = ys at *
  have hm : ∀ i j, i ≤ j → j < ys.toArray.size → ys.toArray[i]! ≤ ys.toArray[j]! := by
    intro i j hij hj
    have hj' : j < ys.length := by simpa using hj
    by_cases e : i = j
    · subst e; exact Int.le_refl _
    · have := List.pairwise_iff_getElem.1 hs i j (by omega) hj' (by omega)
      simpa [show i < ys.length by omega, hj'] using this
  obtain ⟨h1, h2⟩ := cut_asc ys.toArray hm ys.length (by simp)
  refine ⟨h1, fun c => (h2 c).trans ((?_ : _ ↔ c ∈ ys).trans hp.mem_iff)⟩
  rw [List.mem_iff_getElem]
  constructor
  · rintro ⟨j, hj, e⟩; exact ⟨j, hj, by simpa [hj] using e⟩
  · rintro ⟨j, hj, e⟩; exact ⟨j, hj, by simpa [hj] using e⟩
end Go.Proofs.YtnckdopphimgoaaGreat
/- Slices of periods that are only read. -/
namespace Go.Proofs.YtnckdopphimgoaaGreat
open Go.ChangeShapes Go.WideShapes Go.ChangeAt Go.RowKit

/-- the value is a slice whose cells hold these periods -/
def Rd (w : World) (v : Value) (l : List (Int × Int)) : Prop :=
  ∃ ad cap, v = .slice ad l.length cap ∧ l.length ≤ cap ∧ cap ≤ maxLen ∧ (ad = none → cap = 0) ∧
    ∀ (i : Nat) (h : i < l.length), ∃ g o, ad = some ⟨g, o, none⟩ ∧ w.cell? ⟨g, o + i * 2, none⟩ = some (.int .i64 l[i].1) ∧ w.cell? ⟨g, o + i * 2 + 1, none⟩ = some (.int .i64 l[i].2)
theorem rd_of_owns {w : World} {base : Nat} {e : TypeId} {v : Value} {l : List (Int × Int)} (ho : w.ownsRow base e 2 v l.length (cellsL l)) : Rd w v l := by
  rcases ho.2 with ⟨rfl, hn⟩ | ⟨g, cap, cur, rfl, hb, hg, hc, hm, hs, ht⟩
  · exact ⟨none, 0, by rw [hn], by omega, Nat.zero_le _, fun _ => rfl, fun i h => by omega⟩
  · refine ⟨some ⟨g, 0, none⟩, cap, rfl, hc, hm, (fun h => by cases h), fun i h => ⟨g, 0, rfl, ?_, ?_⟩⟩
    · rw [Nat.zero_add, ho.cellAt (i * 2) (by omega)]; exact (cellsL_at l i h).1
    · rw [Nat.zero_add, ho.cellAt (i * 2 + 1) (by omega)]; exact (cellsL_at l i h).2
theorem Rd.ext {w w' : World} {v : Value} {l : List (Int × Int)} (h : Rd w v l) (e : Ext w w') : Rd w' v l := by
  obtain ⟨ad, cap, rfl, h1, h2, h3, h4⟩ := h
  refine ⟨ad, cap, rfl, h1, h2, h3, fun i hi => ?_⟩
  obtain ⟨g, o, rfl, c0, c1⟩ := h4 i hi
  exact ⟨g, o, rfl, e.keeps c0, e.keeps c1⟩
theorem rd_nil (w : World) : Rd w (.slice none 0 0) [] := ⟨none, 0, rfl, Nat.le_refl _, Nat.zero_le _, fun _ => rfl, fun i h => by simp at h⟩
/-- the cells of such a slice «as» a list -/
theorem Rd.news {w : World} {ad : Addr} {n cap : Nat} {l : List (Int × Int)} (h : Rd w (.slice (some ad) n cap) l) : ∀ j u, (cellsL l)[j]? = some u → w.cell? (ad.add j) = some u := by
  obtain ⟨ad', cap', e, h1, h2, h3, h4⟩ := h
  simp only [Value.slice.injEq] at e
  obtain ⟨rfl, rfl, rfl⟩ := e
  intro j u hj
  have hlt : j < l.length * 2 := by rw [← cellsL_len]; exact (List.getElem?_eq_some_iff.1 hj).1
  obtain ⟨g, o, e, c0, c1⟩ := h4 (j / 2) (by omega)
  simp only [Option.some.injEq] at e
  subst e
  have hx := cellsL_at l (j / 2) (by omega)
  have hadd : (⟨g, o, none⟩ : Addr).add j = ⟨g, o + j, none⟩ := by unfold Addr.add; split <;> simp_all
  rw [hadd]
  rcases Nat.mod_two_eq_zero_or_one j with m | m
  · rw [show o + j = o + j / 2 * 2 by omega, c0, ← hx.1, show j / 2 * 2 = j by omega, hj]
  · rw [show o + j = o + j / 2 * 2 + 1 by omega, c1, ← hx.2, show j / 2 * 2 + 1 = j by omega, hj]
theorem cellsL_one (l : List (Int × Int)) : ∀ u ∈ cellsL l, u.oneCell' = true := by
  intro u hu
  unfold cellsL at hu
  simp at hu
  obtain ⟨a, b, _, rfl | rfl⟩ := hu <;> rfl
theorem grown_drewN {w w' : World} (h : Grown w w') (n : Nat) : Grown w (w'.drewN n) := h
end Go.Proofs.YtnckdopphimgoaaGreat
/- append of a slice that is read to a row of the call's own. -/
namespace Go.Proofs.YtnckdopphimgoaaGreat
open Go.ChangeShapes Go.WideShapes Go.ChangeAt Go.RowKit

theorem rd_lit1 (Y : World) (x y : Int) (t : TypeId) (n : Nat) (h : Y.heap.size = n) : Rd (Y.alloc (.cells #[.int .i64 x, .int .i64 y] t)) (.slice (some ⟨n, 0, none⟩) 1 1) [(x, y)] := by
  subst h
  refine ⟨_, 1, rfl, Nat.le_refl _, (by unfold maxLen; omega), (fun h => by cases h), fun i hi => ⟨_, 0, rfl, ?_⟩⟩
  have : i = 0 := by simpa using hi
  subst this
  exact ⟨al0 _ _ _ _, al1 _ _ _ _⟩
/-- a row of the call's own: new behind W -/
def Own (W w : World) (v : Value) (l : List (Int × Int)) : Prop := w.ownsRow W.heap.size 40 2 v l.length (cellsL l) ∧ Ext W w
theorem Own.nil (W w : World) (h : Ext W w) : Own W w (.slice none 0 0) [] := ⟨World.ownsRow_nil _ _ _ _, h⟩
theorem Own.ext {W w w' : World} {v : Value} {l : List (Int × Int)} (h : Own W w v l) (e : Ext w w') : Own W w' v l := ⟨e.owns h.1, h.2.trans e⟩
theorem Own.rd {W w : World} {v : Value} {l : List (Int × Int)} (h : Own W w v l) : Rd w v l := rd_of_owns h.1
theorem Own.zero {W w : World} {v : Value} {l : List (Int × Int)} (h : Own W w v l) : w.ownsRow 0 40 2 v l.length (cellsL l) := owns_zero h.1
theorem Own.grow {W w w' : World} {v v' : Value} {l m : List (Int × Int)} (h : Own W w v l) (hg : w.grownBy w' v.ownBlock) (ho : w'.ownsRow W.heap.size 40 2 v' m.length (cellsL m)) : Own W w' v' m :=
  ⟨ho, ext_grownBy h.2 hg (fun k hk => (h.1.lt k hk).1)⟩
/-- what lies in other blocks stays -/
theorem Own.far {W w w' : World} {v : Value} {l : List (Int × Int)} (h : Own W w v l) (hg : w.grownBy w' v.ownBlock) {b o : Nat} {u : Value} (hb : b < W.heap.size) (hc : w.cell? ⟨b, o, none⟩ = some u) : w'.cell? ⟨b, o, none⟩ = some u :=
  grow_cell hg hc (fun k hk => by have := (h.1.lt k hk).1; omega)
theorem appR {w : World} {ops : Array Oper} {rest : List Oper} {o : Oper} {a : Act} {Q : Exit → Act → World → Prop} (hgd : o.guard = none) (s x : Operand)
    (ho : o.op = .call { callee := .builtin .append, args := #[s, x], argTypes := #[56, 56] })
    (W : World) (v : Value) (l : List (Int × Int)) (hs : a.eval s = v) (hown : Own W w v l) (vx : Value) (m : List (Int × Int)) (hx : a.eval x = vx) (hrd : Rd w vx m) (hlen : l.length + m.length ≤ 8796093022208)
    (h : ∀ v' w', Own W w' v' (l ++ m) → w.grownBy w' v.ownBlock → wpList Tryz.prog ops Q rest (a.put o.dst v') w') : wpList Tryz.prog ops Q (o :: rest) a w := by
  obtain ⟨i0, hi, hz0, hz1, hz2⟩ := info_parts infoP
  obtain ⟨ad, cap, rfl, h1, h2, h3, h4⟩ := hrd
  cases ad with
  | some ad =>
    refine wpList_append_own w hgd s x 56 ho W.heap.size 40 i0 (.agg #[.int .i64 0, .int .i64 0]) 2 16 Tryz.underlying56 hi hz0 hz1 hz2 rfl (by decide) v l.length (cellsL l) hs hown.1 ad m.length cap (cellsL m) hx (cellsL_len m)
      (Rd.news ⟨some ad, cap, rfl, h1, h2, h3, h4⟩) (cellsL_one m) (by unfold maxLen; omega) (by omega) hown.2.2.2 ?_
    intro v' w' ho' hg' _
    refine h v' w' (hown.grow hg' ?_) hg'
    rw [cellsL_append, List.length_append]; exact ho'
  | none =>
    have hm : m = [] := List.eq_nil_of_length_eq_zero (by have := h3 rfl; omega)
    subst hm
    obtain rfl := h3 rfl
    refine wpList_plain hgd fun K hK' => ?_
    have hrun := run_append_owned_none (P := Tryz.prog) w W.heap.size 56 o.type 40 i0 2 Tryz.underlying56 hi _ l.length (cellsL l) hown.1
    unfold Oper.wp
    simp only [List.length_nil] at hx
    simp [execOp, ho, resolve, invoke, builtin, hs, hx, hrun, Result.andThen]
    exact hK' _ _ (h v w (by simpa using hown) (World.grownBy.refl _ _))
/-- the same at one operation -/
theorem wp_appR {w : World} {o : Oper} {a : Act} {K : Act → World → Prop} {Q : Exit → Act → World → Prop} (s x : Operand)
    (ho : o.op = .call { callee := .builtin .append, args := #[s, x], argTypes := #[56, 56] })
    (W : World) (v : Value) (l : List (Int × Int)) (hs : a.eval s = v) (hown : Own W w v l) (vx : Value) (m : List (Int × Int)) (hx : a.eval x = vx) (hrd : Rd w vx m) (hlen : l.length + m.length ≤ 8796093022208)
    (h : ∀ v' w', Own W w' v' (l ++ m) → w.grownBy w' v.ownBlock → K (a.put o.dst v') w') : o.wp Tryz.prog a w K Q := by
  obtain ⟨i0, hi, hz0, hz1, hz2⟩ := info_parts infoP
  obtain ⟨ad, cap, rfl, h1, h2, h3, h4⟩ := hrd
  cases ad with
  | some ad =>
    obtain ⟨v', w', hr, ho', hg', _⟩ := run_append_own (P := Tryz.prog) w W.heap.size 56 o.type 40 i0 (.agg #[.int .i64 0, .int .i64 0]) 2 16 Tryz.underlying56 hi hz0 hz1 hz2 rfl (by decide) v l.length (cellsL l) hown.1 ad m.length cap (cellsL m) (cellsL_len m)
      (Rd.news ⟨some ad, cap, rfl, h1, h2, h3, h4⟩) (cellsL_one m) (by unfold maxLen; omega) (by omega) hown.2.2.2
    unfold Oper.wp execOp
    simp only [ho, resolve, invoke, builtin, Sem.run_bind, Sem.run_pure, Result.andThen_ok, List.map_toArray, List.map_cons, List.map_nil, hs, hx, hr]
    refine h v' w' (hown.grow hg' ?_) hg'
    rw [cellsL_append, List.length_append]; exact ho'
  | none =>
    have hm : m = [] := List.eq_nil_of_length_eq_zero (by have := h3 rfl; omega)
    subst hm
    obtain rfl := h3 rfl
    have hrun := run_append_owned_none (P := Tryz.prog) w W.heap.size 56 o.type 40 i0 2 Tryz.underlying56 hi _ l.length (cellsL l) hown.1
    unfold Oper.wp
    simp only [List.length_nil] at hx
    simp [execOp, ho, resolve, invoke, builtin, hs, hx, hrun, Result.andThen]
    exact h v w (by simpa using hown) (World.grownBy.refl _ _)
/-- at a step of a region that draws its order, with a base of one's own -/
theorem step_appB {w : World} {ops : Array Oper} {o : Oper} {a : Act} {K : Act → World → Prop} {Q : Exit → Act → World → Prop} {E : Prop} (hgd : o.guard = none) (s x : Operand)
    (ho : o.op = .call { callee := .builtin .append, args := #[s, x], argTypes := #[56, 56] })
    (base : Nat) (v : Value) (l : List (Int × Int)) (hs : a.eval s = v) (hown : w.ownsRow base 40 2 v l.length (cellsL l)) (hbase : base ≤ w.heap.size) (vx : Value) (m : List (Int × Int)) (hx : a.eval x = vx) (hrd : Rd w vx m) (hlen : l.length + m.length ≤ 8796093022208)
    (h : ∀ v' w', w'.ownsRow base 40 2 v' (l ++ m).length (cellsL (l ++ m)) → w.grownBy w' v.ownBlock → K (a.put o.dst v') w') :
    if Region.wanted o (yielded ops a.tmps) = true then Oper.wp Tryz.prog o a w K Q else E := by
  have hw : Region.wanted o (yielded ops a.tmps) = true := by simp [Region.wanted, hgd]
  rw [if_pos hw]
  obtain ⟨i0, hi, hz0, hz1, hz2⟩ := info_parts infoP
  obtain ⟨ad, cap, rfl, h1, h2, h3, h4⟩ := hrd
  cases ad with
  | some ad =>
    obtain ⟨v', w', hr, ho', hg', _⟩ := run_append_own (P := Tryz.prog) w base 56 o.type 40 i0 (.agg #[.int .i64 0, .int .i64 0]) 2 16 Tryz.underlying56 hi hz0 hz1 hz2 rfl (by decide) v l.length (cellsL l) hown ad m.length cap (cellsL m) (cellsL_len m)
      (Rd.news ⟨some ad, cap, rfl, h1, h2, h3, h4⟩) (cellsL_one m) (by unfold maxLen; omega) (by omega) hbase
    unfold Oper.wp execOp
    simp only [ho, resolve, invoke, builtin, Sem.run_bind, Sem.run_pure, Result.andThen_ok, List.map_toArray, List.map_cons, List.map_nil, hs, hx, hr]
    refine h v' w' ?_ hg'
    rw [cellsL_append, List.length_append]; exact ho'
  | none =>
    have hm : m = [] := List.eq_nil_of_length_eq_zero (by have := h3 rfl; omega)
    subst hm
    obtain rfl := h3 rfl
    have hrun := run_append_owned_none (P := Tryz.prog) w base 56 o.type 40 i0 2 Tryz.underlying56 hi _ l.length (cellsL l) hown
    unfold Oper.wp
    simp only [List.length_nil] at hx
    simp [execOp, ho, resolve, invoke, builtin, hs, hx, hrun, Result.andThen]
    exact h v w (by simpa using hown) (World.grownBy.refl _ _)
/-- at a step of a region that draws its order -/
theorem step_appR {w : World} {ops : Array Oper} {o : Oper} {a : Act} {K : Act → World → Prop} {Q : Exit → Act → World → Prop} {E : Prop} (hgd : o.guard = none) (s x : Operand)
    (ho : o.op = .call { callee := .builtin .append, args := #[s, x], argTypes := #[56, 56] })
    (W : World) (v : Value) (l : List (Int × Int)) (hs : a.eval s = v) (hown : Own W w v l) (vx : Value) (m : List (Int × Int)) (hx : a.eval x = vx) (hrd : Rd w vx m) (hlen : l.length + m.length ≤ 8796093022208)
    (h : ∀ v' w', Own W w' v' (l ++ m) → w.grownBy w' v.ownBlock → K (a.put o.dst v') w') :
    if Region.wanted o (yielded ops a.tmps) = true then Oper.wp Tryz.prog o a w K Q else E := by
  have hw : Region.wanted o (yielded ops a.tmps) = true := by simp [Region.wanted, hgd]
  rw [if_pos hw]
  exact wp_appR s x ho W v l hs hown vx m hx hrd hlen h
end Go.Proofs.YtnckdopphimgoaaGreat
/- Cells set one by one: what stays. A row of the call's own that the code writes out. -/
namespace Go.Proofs.YtnckdopphimgoaaGreat
open Go.ChangeShapes Go.WideShapes Go.ChangeAt Go.RowKit

theorem own_litB {α : Type} [Enc α] (e : TypeId) {W X : World} (h : Ext W X) (l : List α) (c : Array Value) (n k : Nat) (hn : n = X.heap.size) (hk : k = l.length) (hl : l.length ≤ 1000) (hc : c.toList = cellsG l) : OwnG e W (X.alloc (.cells c e)) (.slice (some ⟨n, 0, none⟩) k k) l := by
  subst hn hk
  have hs : c.size = l.length * Enc.sz α := by rw [← Array.length_toList, hc, cellsG_len]
  have := World.ownsRow_lit (base := W.heap.size) (e := e) (size := Enc.sz α) X c l.length h.2.2 (by unfold maxLen; omega) hs
  rw [hc] at this
  exact ⟨this, h.alloc _ _⟩
theorem grw_set (w : World) (b j : Nat) (u : Value) : Grw w (w.setCell ⟨b, j, none⟩ u) (some b) :=
  ⟨rfl, rfl, by simp [World.setCell], fun k _ hn => Below.heap_setCell _ _ _ _ (by show k ≠ b; exact fun e => hn (by rw [e]))⟩
theorem own_set {α : Type} [Enc α] {e : TypeId} {W w : World} {v : Value} {l : List α} (h : OwnG e W w v l) (b j : Nat) (u : Value) (hb : W.heap.size ≤ b) (hn : ∀ g, v.ownBlock = some g → g ≠ b) : OwnG e W (w.setCell ⟨b, j, none⟩ u) v l := by
  refine ⟨owns_grw h.1 (grw_set w b j u) ?_, h.2.setNew b j hb u⟩
  cases hv : v.ownBlock with
  | none => exact .inl rfl
  | some g => exact .inr (fun e => hn g hv (by injection e))
theorem own_set4 {α : Type} [Enc α] {e : TypeId} {W w : World} {v : Value} {l : List α} (h : OwnG e W w v l) (b : Nat) (p q r s : Value) (hb : W.heap.size ≤ b) (hn : ∀ g, v.ownBlock = some g → g ≠ b) : OwnG e W ((((w.setCell ⟨b, 0, none⟩ p).setCell ⟨b, 1, none⟩ q).setCell ⟨b, 2, none⟩ r).setCell ⟨b, 3, none⟩ s) v l :=
  own_set (own_set (own_set (own_set h b 0 p hb hn) b 1 q hb hn) b 2 r hb hn) b 3 s hb hn
theorem set4_cell {X : World} {b b' o : Nat} {p q r s v : Value} (hne : b' ≠ b) (h : X.cell? ⟨b', o, none⟩ = some v) : ((((X.setCell ⟨b, 0, none⟩ p).setCell ⟨b, 1, none⟩ q).setCell ⟨b, 2, none⟩ r).setCell ⟨b, 3, none⟩ s).cell? ⟨b', o, none⟩ = some v := by
  have hk : ∀ (Y : World) (j : Nat) (u : Value), (Y.setCell ⟨b, j, none⟩ u).cell? ⟨b', o, none⟩ = Y.cell? ⟨b', o, none⟩ := fun Y j u => World.cell?_of_block (Below.heap_setCell _ _ _ _ (by show b' ≠ b; exact hne))
  rw [hk, hk, hk, hk]; exact h
theorem own_ne {α : Type} [Enc α] {e : TypeId} {W w : World} {v : Value} {l : List α} (h : OwnG e W w v l) (b : Nat) (hb : b < W.heap.size) : ∀ g, v.ownBlock = some g → g ≠ b := fun g hg e => by
  have := (h.blk g hg).1; omega
end Go.Proofs.YtnckdopphimgoaaGreat
