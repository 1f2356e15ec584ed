/- Where a row lies behind an append; two rows of the call's own side by side; parts of rows that such growth leaves «as» they were. -/
import Derived.Test.YtnckdopphimgoaaZz02
import Derived.Test.YtnckdopphimgoaaZz10
namespace Go.Proofs.Ytnckdopphimgoaa
open Go.ChangeShapes Go.WideShapes Go.ChangeAt Go.RowKit
variable {α : Type} [Enc α]

/-- in the same block, or in a new one -/
def Loc (w : World) (v v' : Value) : Prop := v'.ownBlock = v.ownBlock ∨ ∃ g, v'.ownBlock = some g ∧ w.heap.size ≤ g
theorem Loc.refl (w : World) (v : Value) : Loc w v v := .inl rfl
theorem Loc.trans {a b : World} {v1 v2 v3 : Value} (h : Loc a v1 v2) (k : Loc b v2 v3) (hs : a.heap.size ≤ b.heap.size) : Loc a v1 v3 := by
  rcases k with k | ⟨g, k1, k2⟩
  · rcases h with h | ⟨g, h1, h2⟩
    · exact .inl (k.trans h)
    · exact .inr ⟨g, k.trans h1, h2⟩
  · exact .inr ⟨g, k1, Nat.le_trans hs k2⟩
theorem run_appL (T : RowT α) {w : World} (ty : TypeId) (W : World) (v : Value) (l : List α) (hown : OwnG T.e W w v l) (vx : Value) (m : List α) (hrd : RdG w vx m) (hlen : l.length + m.length ≤ 137438953472) :
    ∃ v' w', (Builtin.append_ #[T.t, T.t] ty #[v, vx]).run Try.prog w = .ok v' w' ∧ OwnG T.e W w' v' (l ++ m) ∧ w.grownBy w' v.ownBlock ∧ Loc w v v' := by
  obtain ⟨i0, hi, hz0, hz1, hz2⟩ := info_parts T.hi
  obtain ⟨ad, cap, rfl, h1, h2, h3, h4⟩ := hrd
  cases ad with
  | some ad =>
    have hnews := RdG.news ⟨some ad, cap, rfl, h1, h2, h3, h4⟩
    obtain ⟨v', w', hr, ho', hg', _⟩ := run_append_own (P := Try.prog) w W.heap.size T.t ty T.e i0 T.zv (Enc.sz α) T.bytes T.hu hi hz0 hz1 hz2 T.zsz Enc.pos v l.length (cellsG l) hown.1 ad m.length cap (cellsG m) (cellsG_len m)
      hnews (cellsG_one m) (by unfold maxLen; omega) (T.fits _ hlen) hown.2.2.2
    refine ⟨v', w', hr, hown.grow hg' (by rw [cellsG_append, List.length_append]; exact ho'), hg', ?_⟩
    rcases hown.1.2 with ⟨rfl, hn0⟩ | ⟨g, cap', cur, rfl, hbg, hg, hnc, hcm, hcs, htake⟩
    · have hl0 : l = [] := List.eq_nil_of_length_eq_zero hn0
      obtain ⟨v2, w2, hr2, ho2, _, _⟩ := run_append_own (P := Try.prog) w w.heap.size T.t ty T.e i0 T.zv (Enc.sz α) T.bytes T.hu hi hz0 hz1 hz2 T.zsz Enc.pos (.slice none 0 0) 0 [] (World.ownsRow_nil w w.heap.size T.e (Enc.sz α)) ad m.length cap (cellsG m) (cellsG_len m)
        hnews (cellsG_one m) (by unfold maxLen; omega) (T.fits _ (by omega)) (Nat.le_refl _)
      rw [hr] at hr2
      obtain ⟨rfl, rfl⟩ : v' = v2 ∧ w' = w2 := by injection hr2 with a b; exact ⟨a, b⟩
      rcases ho2.2 with ⟨rfl, _⟩ | ⟨g, cap', cur, rfl, hbg, _⟩
      · exact .inl rfl
      · exact .inr ⟨g, rfl, hbg⟩
    · by_cases hroom : l.length + m.length ≤ cap'
      · obtain ⟨w2, hr2, _, _⟩ := run_append_fits (P := Try.prog) w W.heap.size T.t ty T.e i0 (Enc.sz α) T.hu hi hz1 g l.length cap' (cellsG l) hown.1 ad m.length cap (cellsG m) (cellsG_len m) hnews (cellsG_one m) hroom
        rw [hr] at hr2
        obtain ⟨rfl, rfl⟩ : v' = .slice (some ⟨g, 0, none⟩) (l.length + m.length) cap' ∧ w' = w2 := by injection hr2 with a b; exact ⟨a, b⟩
        exact .inl rfl
      · have hlo : (cellsG l).length = l.length * i0.size := by rw [hz1]; exact cellsG_len l
        have hr2 := run_append_grow (P := Try.prog) w T.t ty T.e i0 T.zv T.hu hi hz0 ⟨g, 0, none⟩ l.length cap' (cellsG l) hlo (hown.1.cells (g := g) rfl) ad m.length cap (cellsG m) (by rw [hz1]; exact cellsG_len m) hnews (by omega) (by omega)
          (growslice_fits (by omega) (by rw [hz2]; exact T.fits _ hlen))
        rw [hr] at hr2
        injection hr2 with a b
        rw [a]
        exact .inr ⟨_, rfl, Nat.le_refl _⟩
  | none =>
    have hm : m = [] := List.eq_nil_of_length_eq_zero (by have := h3 rfl; omega)
    subst hm
    obtain rfl := h3 rfl
    exact ⟨v, w, run_append_owned_none (P := Try.prog) w W.heap.size T.t ty T.e i0 (Enc.sz α) T.hu hi _ l.length (cellsG l) hown.1, by simpa using hown, World.grownBy.refl _ _, Loc.refl _ _⟩
theorem appGL (T : RowT α) {w : World} {ops : Array Oper} {rest : List Oper} {o : Oper} {a : Act} {Q : Exit → Act → World → Prop} (hgd : o.guard = none) (s x : Operand)
    (ho : o.op = .call { callee := .builtin .append, args := #[s, x], argTypes := #[T.t, T.t] })
    (W : World) (v : Value) (l : List α) (hs : a.eval s = v) (hown : OwnG T.e W w v l) (vx : Value) (m : List α) (hx : a.eval x = vx) (hrd : RdG w vx m) (hlen : l.length + m.length ≤ 137438953472)
    (h : ∀ v' w', OwnG T.e W w' v' (l ++ m) → w.grownBy w' v.ownBlock → Loc w v v' → wpList Try.prog ops Q rest (a.put o.dst v') w') : wpList Try.prog ops Q (o :: rest) a w := by
  obtain ⟨v', w', hr, h1, h2, h3⟩ := run_appL T o.type W v l hown vx m hrd hlen
  refine wpList_plain hgd fun K hK' => ?_
  unfold Oper.wp execOp
  simp only [ho, resolve, invoke, builtin, Sem.run_bind, Sem.run_pure, Result.andThen_ok, List.map_toArray, List.map_cons, List.map_nil, hs, hx, hr]
  exact hK' _ _ (h v' w' h1 h2 h3)
theorem step_appGL (T : RowT α) {w : World} {ops : Array Oper} {o : Oper} {a : Act} {K : Act → World → Prop} {Q : Exit → Act → World → Prop} {E : Prop} (hgd : o.guard = none) (s x : Operand)
    (ho : o.op = .call { callee := .builtin .append, args := #[s, x], argTypes := #[T.t, T.t] })
    (W : World) (v : Value) (l : List α) (hs : a.eval s = v) (hown : OwnG T.e W w v l) (vx : Value) (m : List α) (hx : a.eval x = vx) (hrd : RdG w vx m) (hlen : l.length + m.length ≤ 137438953472)
    (h : ∀ v' w', OwnG T.e W w' v' (l ++ m) → w.grownBy w' v.ownBlock → Loc w v v' → K (a.put o.dst v') w') :
    if Region.wanted o (yielded ops a.tmps) = true then Oper.wp Try.prog o a w K Q else E := by
  have hw : Region.wanted o (yielded ops a.tmps) = true := by simp [Region.wanted, hgd]
  rw [if_pos hw]
  obtain ⟨v', w', hr, h1, h2, h3⟩ := run_appL T o.type W v l hown vx m hrd hlen
  unfold Oper.wp execOp
  simp only [ho, resolve, invoke, builtin, Sem.run_bind, Sem.run_pure, Result.andThen_ok, List.map_toArray, List.map_cons, List.map_nil, hs, hx, hr]
  exact h v' w' h1 h2 h3
/-- what is left of a world by a call that may write into one block -/
structure Grw (w w' : World) (b : Option Nat) : Prop where
  os : w'.os = w.os
  out : w'.output = w.output
  size : w.heap.size ≤ w'.heap.size
  block : ∀ k, k < w.heap.size → some k ≠ b → w'.heap[k]? = w.heap[k]?
theorem grw_ext {w w' : World} (h : Ext w w') (b : Option Nat) : Grw w w' b := ⟨h.1.1, h.1.2.1, h.2.2, fun _ hk _ => ext_block h hk⟩
theorem grw_by {w w' : World} {b : Option Nat} (h : w.grownBy w' b) : Grw w w' b := ⟨h.os, h.output, h.size, h.block⟩
theorem Grw.refl (w : World) (b : Option Nat) : Grw w w b := ⟨rfl, rfl, Nat.le_refl _, fun _ _ _ => rfl⟩
theorem Grw.trans {a b c : World} {x y : Option Nat} (h : Grw a b x) (k : Grw b c y) (hy : y = x ∨ ∃ g, y = some g ∧ a.heap.size ≤ g) : Grw a c x :=
  ⟨k.os.trans h.os, k.out.trans h.out, Nat.le_trans h.size k.size, fun i hi hn => (k.block i (Nat.lt_of_lt_of_le hi h.size) (fun e => by
    rcases hy with rfl | ⟨g, rfl, hg⟩
    · exact hn e
    · injection e with e; omega)).trans (h.block i hi hn)⟩
theorem ext_grw {W w w' : World} {b : Option Nat} (h : Ext W w) (k : Grw w w' b) (hb : ∀ g, b = some g → W.heap.size ≤ g) : Ext W w' := by
  have hk : ∀ i, i < W.heap.size → w'.heap[i]? = w.heap[i]? := fun i hi => k.block i (Nat.lt_of_lt_of_le hi h.2.2) (fun e => by have := hb i e.symm; omega)
  refine ⟨⟨k.os.trans h.1.1, k.out.trans h.1.2.1, fun i hi => ?_⟩, fun a ha => (World.frozen?_of_block (hk _ ha)).trans (h.2.1 a ha), Nat.le_trans h.2.2 k.size⟩
  rw [hk i hi]
  exact h.1.2.2 i hi
/-- the block of a row of the call's own -/
def RowBlk (e : TypeId) (W w : World) (b : Option Nat) : Prop := ∀ g, b = some g → W.heap.size ≤ g ∧ ∃ cur, w.heap[g]? = some (.cells cur e (0, 0))
theorem OwnG.blk {e : TypeId} {W w : World} {v : Value} {l : List α} (h : OwnG e W w v l) : RowBlk e W w v.ownBlock := by
  rcases h.1.2 with ⟨rfl, _⟩ | ⟨g, cap, cur, rfl, hb, hg, _⟩
  · intro g hg; cases hg
  · intro g' hg'
    injection hg' with hg'
    subst hg'
    exact ⟨hb, cur, hg⟩
/-- a slice that no growth of such a row touches -/
def Off (e : TypeId) (W w : World) (u : Value) : Prop := ∀ g, u.ownBlock = some g → lenOf u ≠ 0 → g < W.heap.size ∨ ∃ cur e' fr, w.heap[g]? = some (.cells cur e' fr) ∧ e' ≠ e
theorem Off.ext {e : TypeId} {W w w' : World} {u : Value} (h : Off e W w u) (k : Ext w w') : Off e W w' u := fun g hg hl => by
  rcases h g hg hl with h | ⟨cur, e', fr, h1, h2⟩
  · exact .inl h
  · exact .inr ⟨cur, e', fr, k.block h1, h2⟩
theorem Off.grw {e : TypeId} {W w w' : World} {u : Value} {b : Option Nat} (h : Off e W w u) (k : Grw w w' b) (hb : RowBlk e W w b) : Off e W w' u := fun g hg hl => by
  rcases h g hg hl with h | ⟨cur, e', fr, h1, h2⟩
  · exact .inl h
  · refine .inr ⟨cur, e', fr, ?_, h2⟩
    rw [k.block g (Array.getElem?_eq_some_iff.1 h1).1 (fun he => by
      obtain ⟨_, c2, hc⟩ := hb g he.symm
      rw [h1] at hc
      injection hc with hc
      injection hc with _ hc
      exact h2 hc)]
    exact h1
theorem RdG.grw {e : TypeId} {W w w' : World} {u : Value} {l : List α} {b : Option Nat} (h : RdG w u l) (ho : Off e W w u) (k : Grw w w' b) (hb : RowBlk e W w b) : RdG w' u l := by
  obtain ⟨ad, cap, rfl, h1, h2, h3, h4⟩ := h
  refine ⟨ad, cap, rfl, h1, h2, h3, fun i hi => ?_⟩
  obtain ⟨g, o, rfl, c⟩ := h4 i hi
  refine ⟨g, o, rfl, fun j u hj => ?_⟩
  have hc := c j u hj
  have hlt : g < w.heap.size := World.block_lt_of_cell? _ _ hc
  rw [← hc]
  refine World.cell?_of_block (k.block g hlt (fun he => ?_))
  obtain ⟨hW, c2, hg2⟩ := hb g he.symm
  rcases ho g rfl (by simp only [lenOf]; omega) with h | ⟨cur, e', fr, h1', h2'⟩
  · omega
  · rw [h1'] at hg2
    injection hg2 with hg2
    injection hg2 with _ hg2
    exact h2' hg2
theorem owns_grw {w w' : World} {b : Option Nat} {base : Nat} {e : TypeId} {size : Nat} {v : Value} {n : Nat} {xs : List Value} (h : w.ownsRow base e size v n xs) (k : Grw w w' b) (hs : v.ownBlock = none ∨ v.ownBlock ≠ b) : w'.ownsRow base e size v n xs := by
  refine ⟨h.1, ?_⟩
  rcases h.2 with h2 | ⟨g, cap, cur, rfl, hg, hh, r⟩
  · exact .inl h2
  · refine .inr ⟨g, cap, cur, rfl, hg, ?_, r⟩
    rw [k.block g (Array.getElem?_eq_some_iff.1 hh).1 (fun e => by
      rcases hs with hs | hs
      · cases hs
      · exact hs e)]
    exact hh
theorem OwnG.grw {e : TypeId} {W w w' : World} {v : Value} {l : List α} {b : Option Nat} (h : OwnG e W w v l) (k : Grw w w' b) (hb : RowBlk e W w b) (hs : v.ownBlock = none ∨ v.ownBlock ≠ b) : OwnG e W w' v l :=
  ⟨owns_grw h.1 k hs, ext_grw h.2 k fun g hg => (hb g hg).1⟩
/-- a row of another kind lies off -/
theorem OwnG.off {e e' : TypeId} {W W2 w : World} {v : Value} {l : List α} (h : OwnG e' W2 w v l) (hne : e' ≠ e) : Off e W w v := fun g hg _ => by
  obtain ⟨_, cur, hc⟩ := h.blk g hg
  exact .inr ⟨cur, e', _, hc, hne⟩
/-- what an elder world holds lies off -/
theorem off_old {e : TypeId} {W w : World} {v : Value} {l : List α} (h : RdG W v l) : Off e W w v := fun g hg hl => by
  obtain ⟨ad, cap, rfl, h1, h2, h3, h4⟩ := h
  simp only [lenOf] at hl
  obtain ⟨g', o, rfl, c⟩ := h4 0 (by omega)
  injection hg with hg
  subst hg
  have hp := Enc.pos (α := α)
  have hz : 0 < (Enc.cells (l[0]'(by omega))).length := by rw [Enc.len]; exact hp
  have hc := World.block_lt_of_cell? _ _ (c 0 _ (List.getElem?_eq_getElem hz))
  exact .inl hc
theorem OwnG.lt {e : TypeId} {W w : World} {v : Value} {l : List α} (h : OwnG e W w v l) (g : Nat) (hg : v.ownBlock = some g) : g < w.heap.size := by
  obtain ⟨_, cur, hc⟩ := h.blk g hg
  exact (Array.getElem?_eq_some_iff.1 hc).1
end Go.Proofs.Ytnckdopphimgoaa
