/- Where a row lies behind an append; two rows of the call's own side by side; parts of rows that such growth leaves «as» they were. -/
import Derived.Test.YtbplapkcleipiaaGreatDoorZz01
import Derived.Test.YtbplapkcleipiaaGreatDoorZz02
import Derived.Test.YtbplapkcleipiaaGreatDoorZz03
namespace Go.Proofs.YtbplapkcleipiaaGreatDoor
open Go.ChangeShapes Go.WideShapes Go.ChangeAt Go.RowKit
variable {α : Type} [Enc α]

/-- in the same block, or in a new one -/
def Loc (w : World) (v v' : Value) : Prop := v'.ownBlock = v.ownBlock ∨ ∃ g, v'.ownBlock = some g ∧ w.heap.size ≤ g
theorem Loc.refl (w : World) (v : Value) : Loc w v v := .inl rfl
theorem Loc.trans {a b : World} {v1 v2 v3 : Value} (h : Loc a v1 v2) (k : Loc b v2 v3) (hs : a.heap.size ≤ b.heap.size) : Loc a v1 v3 := by
  rcases k with k | ⟨g, k1, k2⟩
  · rcases h with h | ⟨g, h1, h2⟩
    · exact .inl (k.trans h)
    · exact .inr ⟨g, k.trans h1, h2⟩
  · exact .inr ⟨g, k1, Nat.le_trans hs k2⟩
theorem run_appL (T : RowT α) {w : World} (ty : TypeId) (W : World) (v : Value) (l : List α) (hown : OwnG T.e W w v l) (vx : Value) (m : List α) (hrd : RdG w vx m) (hlen : l.length + m.length ≤ 137438953472) :
    ∃ v' w', (Builtin.append_ #[T.t, T.t] ty #[v, vx]).run Tryz.prog w = .ok v' w' ∧ OwnG T.e W w' v' (l ++ m) ∧ w.grownBy w' v.ownBlock ∧ Loc w v v' := by
  obtain ⟨i0, hi, hz0, hz1, hz2⟩ := info_parts T.hi
  obtain ⟨ad, cap, rfl, h1, h2, h3, h4⟩ := hrd
  cases ad with
  | some ad =>
    have hnews := RdG.news ⟨some ad, cap, rfl, h1, h2, h3, h4⟩
    obtain ⟨v', w', hr, ho', hg', _⟩ := run_append_own (P := Tryz.prog) w W.heap.size T.t ty T.e i0 T.zv (Enc.sz α) T.bytes T.hu hi hz0 hz1 hz2 T.zsz Enc.pos v l.length (cellsG l) hown.1 ad m.length cap (cellsG m) (cellsG_len m)
      hnews (cellsG_one m) (by unfold maxLen; omega) (T.fits _ hlen) hown.2.2.2
    refine ⟨v', w', hr, hown.grow hg' (by rw [cellsG_append, List.length_append]; exact ho'), hg', ?_⟩
    rcases hown.1.2 with ⟨rfl, hn0⟩ | ⟨g, cap', cur, rfl, hbg, hg, hnc, hcm, hcs, htake⟩
    · have hl0 : l = [] := List.eq_nil_of_length_eq_zero hn0
      obtain ⟨v2, w2, hr2, ho2, _, _⟩ := run_append_own (P := Tryz.prog) w w.heap.size T.t ty T.e i0 T.zv (Enc.sz α) T.bytes T.hu hi hz0 hz1 hz2 T.zsz Enc.pos (.slice none 0 0) 0 [] (World.ownsRow_nil w w.heap.size T.e (Enc.sz α)) ad m.length cap (cellsG m) (cellsG_len m)
        hnews (cellsG_one m) (by unfold maxLen; omega) (T.fits _ (by omega)) (Nat.le_refl _)
      rw [hr] at hr2
      obtain ⟨rfl, rfl⟩ : v' = v2 ∧ w' = w2 := by injection hr2 with a b; exact ⟨a, b⟩
      rcases ho2.2 with ⟨rfl, _⟩ | ⟨g, cap', cur, rfl, hbg, _⟩
      · exact .inl rfl
      · exact .inr ⟨g, rfl, hbg⟩
    · by_cases hroom : l.length + m.length ≤ cap'
      · obtain ⟨w2, hr2, _, _⟩ := run_append_fits (P := Tryz.prog) w W.heap.size T.t ty T.e i0 (Enc.sz α) T.hu hi hz1 g l.length cap' (cellsG l) hown.1 ad m.length cap (cellsG m) (cellsG_len m) hnews (cellsG_one m) hroom
        rw [hr] at hr2
        obtain ⟨rfl, rfl⟩ : v' = .slice (some ⟨g, 0, none⟩) (l.length + m.length) cap' ∧ w' = w2 := by injection hr2 with a b; exact ⟨a, b⟩
        exact .inl rfl
      · have hlo : (cellsG l).length = l.length * i0.size := by rw [hz1]; exact cellsG_len l
        have hr2 := run_append_grow (P := Tryz.prog) w T.t ty T.e i0 T.zv T.hu hi hz0 ⟨g, 0, none⟩ l.length cap' (cellsG l) hlo (hown.1.cells (g := g) rfl) ad m.length cap (cellsG m) (by rw [hz1]; exact cellsG_len m) hnews (by omega) (by omega)
          (growslice_fits (by omega) (by rw [hz2]; exact T.fits _ hlen))
        rw [hr] at hr2
        injection hr2 with a b
        rw [a]
        exact .inr ⟨_, rfl, Nat.le_refl _⟩
  | none =>
    have hm : m = [] := List.eq_nil_of_length_eq_zero (by have := h3 rfl; omega)
    subst hm
    obtain rfl := h3 rfl
    exact ⟨v, w, run_append_owned_none (P := Tryz.prog) w W.heap.size T.t ty T.e i0 (Enc.sz α) T.hu hi _ l.length (cellsG l) hown.1, by simpa using hown, World.grownBy.refl _ _, Loc.refl _ _⟩
theorem appGL (T : RowT α) {w : World} {ops : Array Oper} {rest : List Oper} {o : Oper} {a : Act} {Q : Exit → Act → World → Prop} (hgd : o.guard = none) (s x : Operand)
    (ho : o.op = .call { callee := .builtin .append, args := #[s, x], argTypes := #[T.t, T.t] })
    (W : World) (v : Value) (l : List α) (hs : a.eval s = v) (hown : OwnG T.e W w v l) (vx : Value) (m : List α) (hx : a.eval x = vx) (hrd : RdG w vx m) (hlen : l.length + m.length ≤ 137438953472)
    (h : ∀ v' w', OwnG T.e W w' v' (l ++ m) → w.grownBy w' v.ownBlock → Loc w v v' → wpList Tryz.prog ops Q rest (a.put o.dst v') w') : wpList Tryz.prog ops Q (o :: rest) a w := by
  obtain ⟨v', w', hr, h1, h2, h3⟩ := run_appL T o.type W v l hown vx m hrd hlen
  refine wpList_plain hgd fun K hK' => ?_
  unfold Oper.wp execOp
  simp only [ho, resolve, invoke, builtin, Sem.run_bind, Sem.run_pure, Result.andThen_ok, List.map_toArray, List.map_cons, List.map_nil, hs, hx, hr]
  exact hK' _ _ (h v' w' h1 h2 h3)
theorem step_appGL (T : RowT α) {w : World} {ops : Array Oper} {o : Oper} {a : Act} {K : Act → World → Prop} {Q : Exit → Act → World → Prop} {E : Prop} (hgd : o.guard = none) (s x : Operand)
    (ho : o.op = .call { callee := .builtin .append, args := #[s, x], argTypes := #[T.t, T.t] })
    (W : World) (v : Value) (l : List α) (hs : a.eval s = v) (hown : OwnG T.e W w v l) (vx : Value) (m : List α) (hx : a.eval x = vx) (hrd : RdG w vx m) (hlen : l.length + m.length ≤ 137438953472)
    (h : ∀ v' w', OwnG T.e W w' v' (l ++ m) → w.grownBy w' v.ownBlock → Loc w v v' → K (a.put o.dst v') w') :
    if Region.wanted o (yielded ops a.tmps) = true then Oper.wp Tryz.prog o a w K Q else E := by
  have hw : Region.wanted o (yielded ops a.tmps) = true := by simp [Region.wanted, hgd]
  rw [if_pos hw]
  obtain ⟨v', w', hr, h1, h2, h3⟩ := run_appL T o.type W v l hown vx m hrd hlen
  unfold Oper.wp execOp
  simp only [ho, resolve, invoke, builtin, Sem.run_bind, Sem.run_pure, Result.andThen_ok, List.map_toArray, List.map_cons, List.map_nil, hs, hx, hr]
  exact h v' w' h1 h2 h3
/-- what is left of a world by a call that may write into one block -/
structure Grw (w w' : World) (b : Option Nat) : Prop where
  os : w'.os = w.os
  out : w'.output = w.output
  size : w.heap.size ≤ w'.heap.size
  block : ∀ k, k < w.heap.size → some k ≠ b → w'.heap[k]? = w.heap[k]?
theorem grw_ext {w w' : World} (h : Ext w w') (b : Option Nat) : Grw w w' b := ⟨h.1.1, h.1.2.1, h.2.2, fun _ hk _ => ext_block h hk⟩
theorem grw_by {w w' : World} {b : Option Nat} (h : w.grownBy w' b) : Grw w w' b := ⟨h.os, h.output, h.size, h.block⟩
theorem Grw.refl (w : World) (b : Option Nat) : Grw w w b := ⟨rfl, rfl, Nat.le_refl _, fun _ _ _ => rfl⟩
theorem Grw.trans {a b c : World} {x y : Option Nat} (h : Grw a b x) (k : Grw b c y) (hy : y = x ∨ ∃ g, y = some g ∧ a.heap.size ≤ g) : Grw a c x :=
  ⟨k.os.trans h.os, k.out.trans h.out, Nat.le_trans h.size k.size, fun i hi hn => (k.block i (Nat.lt_of_lt_of_le hi h.size) (fun e => by
    rcases hy with rfl | ⟨g, rfl, hg⟩
    · exact hn e
    · injection e with e; omega)).trans (h.block i hi hn)⟩
theorem ext_grw {W w w' : World} {b : Option Nat} (h : Ext W w) (k : Grw w w' b) (hb : ∀ g, b = some g → W.heap.size ≤ g) : Ext W w' := by
  have hk : ∀ i, i < W.heap.size → w'.heap[i]? = w.heap[i]? := fun i hi => k.block i (Nat.lt_of_lt_of_le hi h.2.2) (fun e => by have := hb i e.symm; omega)
  refine ⟨⟨k.os.trans h.1.1, k.out.trans h.1.2.1, fun i hi => ?_⟩, fun a ha => (World.frozen?_of_block (hk _ ha)).trans (h.2.1 a ha), Nat.le_trans h.2.2 k.size⟩
  rw [hk i hi]
  exact h.1.2.2 i hi
/-- the block of a row of the call's own -/
def RowBlk (e : TypeId) (W w : World) (b : Option Nat) : Prop := ∀ g, b = some g → W.heap.size ≤ g ∧ ∃ cur, w.heap[g]? = some (.cells cur e (0, 0))
theorem OwnG.blk {e : TypeId} {W w : World} {v : Value} {l : List α} (h : OwnG e W w v l) : RowBlk e W w v.ownBlock := by
  rcases h.1.2 with ⟨rfl, _⟩ | ⟨g, cap, cur, rfl, hb, hg, _⟩
  · intro g hg; cases hg
  · intro g' hg'
    injection hg' with hg'
    subst hg'
    exact ⟨hb, cur, hg⟩
/-- a slice that no growth of such a row touches -/
def Off (e : TypeId) (W w : World) (u : Value) : Prop := ∀ g, u.ownBlock = some g → lenOf u ≠ 0 → g < W.heap.size ∨ ∃ cur e' fr, w.heap[g]? = some (.cells cur e' fr) ∧ e' ≠ e
theorem Off.ext {e : TypeId} {W w w' : World} {u : Value} (h : Off e W w u) (k : Ext w w') : Off e W w' u := fun g hg hl => by
  rcases h g hg hl with h | ⟨cur, e', fr, h1, h2⟩
  · exact .inl h
  · exact .inr ⟨cur, e', fr, k.block h1, h2⟩
theorem Off.grw {e : TypeId} {W w w' : World} {u : Value} {b : Option Nat} (h : Off e W w u) (k : Grw w w' b) (hb : RowBlk e W w b) : Off e W w' u := fun g hg hl => by
  rcases h g hg hl with h | ⟨cur, e', fr, h1, h2⟩
  · exact .inl h
  · refine .inr ⟨cur, e', fr, ?_, h2⟩
    rw [k.block g (Array.getElem?_eq_some_iff.1 h1).1 (fun he => by
      obtain ⟨_, c2, hc⟩ := hb g he.symm
      rw [h1] at hc
      injection hc with hc
      injection hc with _ hc
      exact h2 hc)]
    exact h1
theorem RdG.grw {e : TypeId} {W w w' : World} {u : Value} {l : List α} {b : Option Nat} (h : RdG w u l) (ho : Off e W w u) (k : Grw w w' b) (hb : RowBlk e W w b) : RdG w' u l := by
  obtain ⟨ad, cap, rfl, h1, h2, h3, h4⟩ := h
  refine ⟨ad, cap, rfl, h1, h2, h3, fun i hi => ?_⟩
  obtain ⟨g, o, rfl, c⟩ := h4 i hi
  refine ⟨g, o, rfl, fun j u hj => ?_⟩
  have hc := c j u hj
  have hlt : g < w.heap.size := World.block_lt_of_cell? _ _ hc
  rw [← hc]
  refine World.cell?_of_block (k.block g hlt (fun he => ?_))
  obtain ⟨hW, c2, hg2⟩ := hb g he.symm
  rcases ho g rfl (by simp only [lenOf]; omega) with h | ⟨cur, e', fr, h1', h2'⟩
  · omega
  · rw [h1'] at hg2
    injection hg2 with hg2
    injection hg2 with _ hg2
    exact h2' hg2
theorem owns_grw {w w' : World} {b : Option Nat} {base : Nat} {e : TypeId} {size : Nat} {v : Value} {n : Nat} {xs : List Value} (h : w.ownsRow base e size v n xs) (k : Grw w w' b) (hs : v.ownBlock = none ∨ v.ownBlock ≠ b) : w'.ownsRow base e size v n xs := by
  refine ⟨h.1, ?_⟩
  rcases h.2 with h2 | ⟨g, cap, cur, rfl, hg, hh, r⟩
  · exact .inl h2
  · refine .inr ⟨g, cap, cur, rfl, hg, ?_, r⟩
    rw [k.block g (Array.getElem?_eq_some_iff.1 hh).1 (fun e => by
      rcases hs with hs | hs
      · cases hs
      · exact hs e)]
    exact hh
theorem OwnG.grw {e : TypeId} {W w w' : World} {v : Value} {l : List α} {b : Option Nat} (h : OwnG e W w v l) (k : Grw w w' b) (hb : RowBlk e W w b) (hs : v.ownBlock = none ∨ v.ownBlock ≠ b) : OwnG e W w' v l :=
  ⟨owns_grw h.1 k hs, ext_grw h.2 k fun g hg => (hb g hg).1⟩
/-- a row of another kind lies off -/
theorem OwnG.off {e e' : TypeId} {W W2 w : World} {v : Value} {l : List α} (h : OwnG e' W2 w v l) (hne : e' ≠ e) : Off e W w v := fun g hg _ => by
  obtain ⟨_, cur, hc⟩ := h.blk g hg
  exact .inr ⟨cur, e', _, hc, hne⟩
/-- what an elder world holds lies off -/
theorem off_old {e : TypeId} {W w : World} {v : Value} {l : List α} (h : RdG W v l) : Off e W w v := fun g hg hl => by
  obtain ⟨ad, cap, rfl, h1, h2, h3, h4⟩ := h
  simp only [lenOf] at hl
  obtain ⟨g', o, rfl, c⟩ := h4 0 (by omega)
  injection hg with hg
  subst hg
  have hp := Enc.pos (α := α)
  have hz : 0 < (Enc.cells (l[0]'(by omega))).length := by rw [Enc.len]; exact hp
  have hc := World.block_lt_of_cell? _ _ (c 0 _ (List.getElem?_eq_getElem hz))
  exact .inl hc
theorem OwnG.lt {e : TypeId} {W w : World} {v : Value} {l : List α} (h : OwnG e W w v l) (g : Nat) (hg : v.ownBlock = some g) : g < w.heap.size := by
  obtain ⟨_, cur, hc⟩ := h.blk g hg
  exact (Array.getElem?_eq_some_iff.1 hc).1
end Go.Proofs.YtbplapkcleipiaaGreatDoor
/- Expressions in plain lists: only what is reached matters; types are kept; columns are an ascending list. -/
namespace Go.Proofs.YtbplapkcleipiaaGreatDoor

/-- the value of a column, or none -/
def colV (row : List V) (c : Int) : V := if isIx c row.length = true then atV row c else nul
theorem lgA_of {x : X} {i : Int} (h : lgl x i = true) (ha : 1 ≤ ari x.op) : lgA x i = true := by
  simp only [lgl, lgA, Bool.and_eq_true, Bool.or_eq_true, decide_eq_true_eq] at *
  exact ⟨ha, h.1.resolve_left (by omega)⟩
theorem lgB_of {x : X} {i : Int} (h : lgl x i = true) (hb : ari x.op = 2) : lgB x i = true := by
  simp only [lgl, lgB, Bool.and_eq_true, Bool.or_eq_true, decide_eq_true_eq] at *
  exact ⟨hb, h.2.resolve_left (by omega)⟩
theorem ari_two (op : Int) (h0 : 3 ≤ op) (h1 : op ≤ 9) : ari op = 2 := by unfold ari; rw [if_neg (by omega), if_neg (by omega), if_pos ⟨h0, h1⟩]
theorem evO_same (x : X) (p q row row' : List V) (hl : p.length = q.length) (ha : lgA x p.length = true → atV p x.a = atV q x.a) (hb : lgB x p.length = true → atV p x.b = atV q x.b)
    (hr : x.op = 2 → colV row x.col = colV row' x.col) : evO x p row = evO x q row' := by
  unfold evO
  rw [← hl]
  by_cases hg : lgl x p.length = false
  · rw [if_pos hg, if_pos hg]
  have hg' : lgl x p.length = true := by simpa using hg
  rw [if_neg hg, if_neg hg]
  by_cases h1 : x.op = 1
  · rw [if_pos h1, if_pos h1]
  rw [if_neg h1, if_neg h1]
  by_cases h2 : x.op = 2
  · rw [if_pos h2, if_pos h2]; exact hr h2
  rw [if_neg h2, if_neg h2]
  by_cases h3 : 3 ≤ x.op ∧ x.op ≤ 5
  · have h9 := ari_two x.op (by omega) (by omega)
    rw [if_pos h3, if_pos h3, ha (lgA_of hg' (by omega)), hb (lgB_of hg' h9)]
  rw [if_neg h3, if_neg h3]
  by_cases h4 : 6 ≤ x.op ∧ x.op ≤ 9
  · have h9 := ari_two x.op (by omega) (by omega)
    rw [if_pos h4, if_pos h4, ha (lgA_of hg' (by omega)), hb (lgB_of hg' h9)]
  rw [if_neg h4, if_neg h4]
  by_cases h5 : x.op = 10
  · rw [if_pos h5, if_pos h5, ha (lgA_of hg' (by rw [h5]; decide))]
  rw [if_neg h5, if_neg h5]
  by_cases h6 : x.op = 11
  · rw [if_pos h6, if_pos h6, ha (lgA_of hg' (by rw [h6]; decide))]
  rw [if_neg h6, if_neg h6]

/- the values that the program keeps: those that are reached -/
def pvs (row : List V) (l : List X) (R : List Bool) (n k : Nat) : List V := (List.range n).map fun j => if j < k ∧ R.getD j false = true then (evs row l).getD j nul else nul
theorem pvs_len (row : List V) (l : List X) (R : List Bool) (n k : Nat) : (pvs row l R n k).length = n := by simp [pvs]
theorem pvs_zero (row : List V) (l : List X) (R : List Bool) (n : Nat) : pvs row l R n 0 = List.replicate n nul := by
  refine List.ext_getElem (by simp [pvs]) fun j h1 h2 => ?_
  rw [List.getElem_replicate]
  simp [pvs]
theorem pvs_at (row : List V) (l : List X) (R : List Bool) (n k j : Nat) (hj : j < n) : (pvs row l R n k).getD j nul = if j < k ∧ R.getD j false = true then (evs row l).getD j nul else nul := by
  rw [List.getD, pvs, List.getElem?_map, List.getElem?_range hj]; rfl
theorem list_getD_ext {α : Type} (a b : List α) (d : α) (hl : a.length = b.length) (h : ∀ j, j < a.length → a.getD j d = b.getD j d) : a = b := by
  refine List.ext_getElem hl fun j h1 h2 => ?_
  have := h j h1
  simpa [List.getD, h1, h2] using this
theorem getD_set {α : Type} (u : List α) (k j : Nat) (x d : α) (hk : k < u.length) : (u.set k x).getD j d = if k = j then x else u.getD j d := by
  simp only [List.getD, List.getElem?_set, hk, if_true]
  split <;> rfl
theorem pvs_skip (row : List V) (l : List X) (R : List Bool) (n k : Nat) (h : R.getD k false = false) : pvs row l R n (k + 1) = pvs row l R n k := by
  unfold pvs
  refine List.map_congr_left fun j _ => ?_
  by_cases hj : j = k
  · subst hj; rw [if_neg (fun x => by rw [h] at x; exact absurd x.2 (by simp)), if_neg (fun x => by omega)]
  · by_cases hh : j < k
    · simp only [hh, show j < k + 1 by omega]
    · simp only [hh, show ¬ j < k + 1 by omega]
theorem take_getD {α : Type} (u : List α) (k j : Nat) (d : α) (h : j < k) : (u.take k).getD j d = u.getD j d := by
  simp [List.getD, h]
theorem pvs_step (row : List V) (l : List X) (root k : Nat) (hl : root < l.length) (hk : k ≤ root) (h : (rea l root).getD k false = true) :
    pvs row l (rea l root) (root + 1) (k + 1) = (pvs row l (rea l root) (root + 1) k).set k (evO (l.getD k nulX) ((pvs row l (rea l root) (root + 1) k).take k) row) := by
  have hc := rea_closed l root k hk h
  have hv : evO (l.getD k nulX) ((pvs row l (rea l root) (root + 1) k).take k) row = (evs row l).getD k nul := by
    rw [evs_get row l k (by omega)]
    have e : l.getD k nulX = l[k] := by simp [List.getD, show k < l.length by omega]
    rw [e] at hc ⊢
    have hlen : ((pvs row l (rea l root) (root + 1) k).take k).length = k := by rw [List.length_take, pvs_len]; omega
    refine evO_same _ _ _ _ _ (by rw [hlen, evs_len, List.length_take]; omega) (fun ha => ?_) (fun hb => ?_) (fun _ => rfl)
    · rw [hlen] at ha
      have hlt := lgA_lt ha
      unfold atV
      rw [take_getD _ _ _ _ (by omega), pvs_at _ _ _ _ _ _ (by omega), if_pos ⟨by omega, hc.1 ha⟩, evs_take row l k _ (by omega) (by omega)]
    · rw [hlen] at hb
      have hlt := lgB_lt hb
      unfold atV
      rw [take_getD _ _ _ _ (by omega), pvs_at _ _ _ _ _ _ (by omega), if_pos ⟨by omega, hc.2 hb⟩, evs_take row l k _ (by omega) (by omega)]
  rw [hv]
  refine list_getD_ext _ _ nul (by simp [pvs_len]) fun j hj => ?_
  rw [pvs_len] at hj
  rw [pvs_at _ _ _ _ _ _ hj, getD_set _ _ _ _ _ (by rw [pvs_len]; omega), pvs_at _ _ _ _ _ _ hj]
  by_cases e : k = j
  · subst e; rw [if_pos ⟨by omega, h⟩, if_pos rfl]
  · rw [if_neg e]
    by_cases hh : j < k
    · simp only [hh, show j < k + 1 by omega]
    · simp only [hh, show ¬ j < k + 1 by omega]
theorem pvs_end (row : List V) (l : List X) (root : Nat) : (pvs row l (rea l root) (root + 1) (root + 1)).getD root nul = (evs row l).getD root nul := by
  rw [pvs_at _ _ _ _ _ _ (by omega), if_pos ⟨by omega, rea_root l root⟩]

/- the columns -/
def Uses (l : List X) (root : Nat) (c : Int) : Prop := ∃ i, i ≤ root ∧ (rea l root).getD i false = true ∧ (l.getD i nulX).op = 2 ∧ (l.getD i nulX).col = c
/-- the columns of what is reached below k, in the order of the expressions -/
def clP (l : List X) (R : List Bool) (k : Nat) : List Int := (List.range k).filterMap fun i => if R.getD i false = true ∧ (l.getD i nulX).op = 2 then some (l.getD i nulX).col else none
theorem clP_succ (l : List X) (R : List Bool) (k : Nat) : clP l R (k + 1) = clP l R k ++ (if R.getD k false = true ∧ (l.getD k nulX).op = 2 then [(l.getD k nulX).col] else []) := by
  unfold clP
  rw [List.range_succ, List.filterMap_append]
  congr 1
  simp only [List.filterMap_cons, List.filterMap_nil]
  split <;> simp_all
theorem clP_len (l : List X) (R : List Bool) (k : Nat) : (clP l R k).length ≤ k := by
  unfold clP; exact Nat.le_trans (List.length_filterMap_le _ _) (by simp)
theorem clP_mem (l : List X) (root : Nat) (c : Int) : c ∈ clP l (rea l root) (root + 1) ↔ Uses l root c := by
  simp only [clP, List.mem_filterMap, List.mem_range, Uses]
  constructor
  · rintro ⟨i, hi, h⟩
    split at h
    · next hh => exact ⟨i, by omega, hh.1, hh.2, by simpa using h⟩
    · exact absurd h (by simp)
  · rintro ⟨i, hi, h1, h2, h3⟩
    exact ⟨i, by omega, by rw [if_pos ⟨h1, h2⟩, h3]⟩
/- types are kept -/
theorem booV_k (b : Bool) : (booV b).k = 3 := rfl
theorem calV_k (op : Int) (a b : V) : (calV op a b).k = 1 ∨ (calV op a b).k = 0 := by
  unfold calV numV; split
  · split
    · exact Or.inl rfl
    · exact Or.inr rfl
  · exact Or.inr rfl
/-- a row whose values have the kinds of the columns, or are Null -/
def Kinds (cols : List Int) (row : List V) : Prop := ∀ c : Int, isIx c cols.length = true → (colV row c).k = atI cols c ∨ (colV row c).k = 0
theorem evs_typed (cols : List Int) (row : List V) (hk : Kinds cols row) (l : List X) : ∀ n, ∀ k, k < n → k < l.length → ((chs cols l).getD k (0, 0)).2 = 0 → ((evs row l).getD k nul).k = ((chs cols l).getD k (0, 0)).1 ∨ ((evs row l).getD k nul).k = 0
  | 0, _, h, _, _ => absurd h (by omega)
  | n + 1, k, h, hl, he => by
    have ih := evs_typed cols row hk l n
    rw [evs_get row l k hl]
    rw [chs_get cols l k hl] at he ⊢
    have hpl : (chs cols (l.take k)).length = k := by rw [chs_len, List.length_take]; omega
    have hql : (evs row (l.take k)).length = k := by rw [evs_len, List.length_take]; omega
    generalize l[k] = x at *
    unfold chO at *
    by_cases h1 : ari x.op = -1 ∨ (x.op = 1 ∧ vldB x.c = false)
    · rw [if_pos h1] at he; exact absurd he (by decide)
    rw [if_neg h1] at he ⊢
    rw [hpl] at *
    by_cases h2 : lgl x k = false ∨ (x.op = 2 ∧ isIx x.col cols.length = false)
    · rw [if_pos h2] at he; exact absurd he (by decide)
    rw [if_neg h2] at he ⊢
    have hg : lgl x k = true := by
      cases hh : lgl x k with
      | true => rfl
      | false => exact absurd (Or.inl hh) h2
    unfold evO
    rw [hql, if_neg (by rw [hg]; decide)]
    by_cases h3 : ari x.op = 1
    · rw [if_pos h3] at he ⊢
      have hop : x.op = 10 ∨ x.op = 11 := by
        unfold ari at h3; split at h3
        · omega
        · split at h3
          · assumption
          · split at h3 <;> omega
      have hu : (unO x.op (atK (chs cols (l.take k)) x.a)).1 = 3 := by
        unfold unO at he ⊢
        split at he
        · next hh => exact absurd he hh
        · next hh =>
          rw [if_neg hh]
          split at he
          · exact absurd he (by decide)
          · next h5 => rw [if_neg h5]
      rw [hu, if_neg (by omega), if_neg (by omega), if_neg (by omega), if_neg (by omega)]
      rcases hop with e | e
      · rw [if_pos e]; exact Or.inl rfl
      · rw [if_neg (by omega), if_pos e]; exact Or.inl rfl
    rw [if_neg h3] at he ⊢
    by_cases h4 : ari x.op = 2
    · rw [if_pos h4] at he ⊢
      have hop : 3 ≤ x.op ∧ x.op ≤ 9 := by
        unfold ari at h4; split at h4
        · omega
        · split at h4
          · omega
          · split at h4 <;> omega
      rw [if_neg (by omega), if_neg (by omega)]
      unfold biO at he ⊢
      split at he
      · next hh => exact absurd he hh
      · next hh =>
        rw [if_neg hh]
        split at he
        · next hb => exact absurd he hb
        · next hb =>
          rw [if_neg hb]
          by_cases h5 : 3 ≤ x.op ∧ x.op ≤ 5
          · rw [if_pos h5] at he ⊢
            rw [if_pos h5]
            split at he
            · next h6 => rw [if_pos h6]; exact calV_k _ _ _
            · exact absurd he (by decide)
          · rw [if_neg h5] at he ⊢
            rw [if_neg h5, if_pos (by omega)]
            by_cases h7 : x.op = 6 ∨ x.op = 7
            · rw [if_pos h7] at he ⊢
              split at he
              · next h6 => rw [if_pos h6]; exact Or.inl rfl
              · exact absurd he (by decide)
            · rw [if_neg h7] at he ⊢
              split at he
              · next h6 => rw [if_pos h6]; exact Or.inl rfl
              · exact absurd he (by decide)
    rw [if_neg h4] at he ⊢
    by_cases h5 : x.op = 2
    · rw [if_pos h5, if_neg (by omega), if_pos h5]
      have : isIx x.col cols.length = true := by
        cases hh : isIx x.col cols.length with
        | true => rfl
        | false => exact absurd (Or.inr ⟨h5, hh⟩) h2
      exact hk _ this
    · have hop : x.op = 1 := by
        have hn : ari x.op ≠ -1 := fun e => h1 (Or.inl e)
        unfold ari at h3 h4 hn
        split at h3
        · omega
        · next hc =>
          rw [if_neg hc] at h4 hn
          split at h3
          · exact absurd rfl h3
          · next hd =>
            rw [if_neg hd] at h4 hn
            split at h4
            · exact absurd rfl h4
            · next hf => rw [if_neg hf] at hn; exact absurd rfl hn
      rw [if_pos hop, if_neg h5]; exact Or.inl rfl
/- only the columns that are used matter -/
theorem evs_local (l : List X) (root : Nat) (hr : root < l.length) (row row' : List V) (h : ∀ c, Uses l root c → colV row c = colV row' c) : ∀ n, ∀ k, k < n → k ≤ root → (rea l root).getD k false = true → (evs row l).getD k nul = (evs row' l).getD k nul
  | 0, _, hk, _, _ => absurd hk (by omega)
  | n + 1, k, hk, hkr, hR => by
    have ih := evs_local l root hr row row' h n
    have hc := rea_closed l root k hkr hR
    rw [evs_get row l k (by omega), evs_get row' l k (by omega)]
    have e : l.getD k nulX = l[k] := by simp [List.getD, show k < l.length by omega]
    have hu : l[k].op = 2 → Uses l root l[k].col := fun h2 => ⟨k, hkr, hR, by rw [e]; exact h2, by rw [e]⟩
    rw [e] at hc
    generalize l[k] = x at *
    have hlen : (evs row (l.take k)).length = k := by rw [evs_len, List.length_take]; omega
    refine evO_same _ _ _ _ _ (by rw [evs_len, evs_len]) (fun ha => ?_) (fun hb => ?_) (fun h2 => h _ (hu h2))
    · rw [hlen] at ha
      have hlt := lgA_lt ha
      unfold atV
      rw [evs_take row l k _ (by omega) (by omega), evs_take row' l k _ (by omega) (by omega)]
      exact ih _ (by omega) (by omega) (hc.1 ha)
    · rw [hlen] at hb
      have hlt := lgB_lt hb
      unfold atV
      rw [evs_take row l k _ (by omega) (by omega), evs_take row' l k _ (by omega) (by omega)]
      exact ih _ (by omega) (by omega) (hc.2 hb)
/- what stands behind the root does not matter -/
theorem rst_app (l m : List X) (i : Nat) (u : List Bool) (h : i < l.length) : rst (l ++ m) i u = rst l i u := by
  unfold rst; rw [getD_pre _ _ _ _ h]
theorem rdn_app (l m : List X) : ∀ n u, n ≤ l.length → rdn (l ++ m) n u = rdn l n u
  | 0, _, _ => rfl
  | n + 1, u, h => by rw [rdn, rdn, rst_app _ _ _ _ (by omega), rdn_app l m n _ (by omega)]
theorem rea_app (l m : List X) (root : Nat) (h : root < l.length) : rea (l ++ m) root = rea l root := rdn_app l m _ _ (by omega)
theorem uses_app (l m : List X) (root : Nat) (h : root < l.length) (c : Int) : Uses (l ++ m) root c ↔ Uses l root c := by
  unfold Uses
  rw [rea_app l m root h]
  constructor
  · rintro ⟨i, h0, h1, h2, h3⟩
    rw [getD_pre _ _ _ _ (by omega)] at h2 h3
    exact ⟨i, h0, h1, h2, h3⟩
  · rintro ⟨i, h0, h1, h2, h3⟩
    exact ⟨i, h0, h1, by rw [getD_pre _ _ _ _ (by omega)]; exact h2, by rw [getD_pre _ _ _ _ (by omega)]; exact h3⟩
end Go.Proofs.YtbplapkcleipiaaGreatDoor
/- Sums, differences, products that fit in 64 bits. -/
namespace Go.Proofs.YtbplapkcleipiaaGreatDoor
open Go.ChangeShapes Go.WideShapes Go.ChangeAt Go.RowKit

theorem fitB_iff (z : Int) : fitB z = true ↔ -9223372036854775808 ≤ z ∧ z ≤ 9223372036854775807 := by simp [fitB]
theorem wrap_fit (z : Int) (h : fitB z = true) : wrap64 z = z := by rw [fitB_iff] at h; unfold wrap64; omega
theorem fits_add (a b : Int) (ha : -9223372036854775808 ≤ a ∧ a ≤ 9223372036854775807) (hb : -9223372036854775808 ≤ b ∧ b ≤ 9223372036854775807) : (decide (a < wrap64 (a + b)) == decide (0 < b)) = fitB (a + b) := by
  rw [Bool.eq_iff_iff, fitB_iff, beq_iff_eq, decide_eq_decide]
  unfold wrap64; omega
theorem fits_sub (a b : Int) (ha : -9223372036854775808 ≤ a ∧ a ≤ 9223372036854775807) (hb : -9223372036854775808 ≤ b ∧ b ≤ 9223372036854775807) : (decide (wrap64 (a - b) < a) == decide (0 < b)) = fitB (a - b) := by
  rw [Bool.eq_iff_iff, fitB_iff, beq_iff_eq, decide_eq_decide]
  unfold wrap64; omega
theorem wrap_parts (c : Int) : ∃ m, wrap64 c = c - m * 18446744073709551616 ∧ -9223372036854775808 ≤ wrap64 c ∧ wrap64 c ≤ 9223372036854775807 := by
  refine ⟨(c + 9223372036854775808) / 18446744073709551616, ?_, ?_, ?_⟩ <;> (unfold wrap64; omega)
theorem fits_mul (a b : Int) (ha : -9223372036854775808 ≤ a ∧ a ≤ 9223372036854775807) (hb : -9223372036854775808 ≤ b ∧ b ≤ 9223372036854775807) (h0 : b ≠ 0) :
    (wrap64 ((wrap64 (a * b)).tdiv b) = a ∧ ¬ (a = -9223372036854775808 ∧ b = -1)) ↔ fitB (a * b) = true := by
  constructor
  · rintro ⟨h1, h2⟩
    by_cases hm : b = -1
    · subst hm; rw [fitB_iff]; omega
    · obtain ⟨m, e1, e2, e3⟩ := wrap_parts (a * b)
      generalize hp : wrap64 (a * b) = p at *
      have hq := Int.mul_tdiv_add_tmod p b
      have hr := Int.natAbs_tmod p b
      have hlt : (p.tmod b).natAbs < b.natAbs := by rw [hr]; exact Nat.mod_lt _ (by omega)
      have hd := Int.natAbs_tdiv p b
      have hq2 : (p.tdiv b).natAbs ≤ p.natAbs ∧ (b ≠ 1 → (p.tdiv b).natAbs ≤ p.natAbs / 2) := by
        rw [hd]
        refine ⟨Nat.div_le_self _ _, fun h => Nat.div_le_div_left (by omega) (by omega)⟩
      have hqa : p.tdiv b = a := by
        by_cases hb1 : b = 1
        · subst hb1; rw [Int.tdiv_one] at h1 ⊢; unfold wrap64 at h1; omega
        · have := hq2.2 hb1
          unfold wrap64 at h1; omega
      rw [hqa, Int.mul_comm] at hq
      generalize a * b = c at *
      rw [fitB_iff]; omega
  · intro h
    rw [wrap_fit _ h]
    rw [Int.mul_tdiv_cancel _ h0]
    refine ⟨wrap_fit _ ((fitB_iff _).2 ha), fun e => ?_⟩
    obtain ⟨rfl, rfl⟩ := e
    rw [fitB_iff] at h; omega
end Go.Proofs.YtbplapkcleipiaaGreatDoor
/- A row of the call's own, cut short. -/
namespace Go.Proofs.YtbplapkcleipiaaGreatDoor
open Go.ChangeShapes Go.WideShapes Go.ChangeAt Go.RowKit

theorem OwnG.take {α : Type} [Enc α] {e : TypeId} {W w : World} {ad : Option Addr} {n cap : Nat} {l : List α} (h : OwnG e W w (.slice ad n cap) l) (k : Nat) (hk : k ≤ l.length) : OwnG e W w (.slice ad k cap) (l.take k) := by
  have hl : (l.take k).length = k := by rw [List.length_take]; omega
  refine ⟨⟨?_, ?_⟩, h.2⟩
  · rw [cellsG_len, hl]
  · rcases h.1.2 with ⟨e1, h0⟩ | ⟨g, cap', cur, e1, hb, hg, hnc, hcm, hcs, htake⟩
    · simp only [Value.slice.injEq] at e1
      obtain ⟨rfl, rfl, rfl⟩ := e1
      have hl0 : k = 0 := by omega
      subst hl0
      exact .inl ⟨rfl, by simp⟩
    · simp only [Value.slice.injEq] at e1
      obtain ⟨rfl, rfl, rfl⟩ := e1
      refine .inr ⟨g, cap, cur, by rw [hl], hb, hg, by rw [hl]; omega, hcm, hcs, ?_⟩
      rw [hl, ← cellsG_take l k hk, ← htake, List.take_take]
      congr 1
      have : k * Enc.sz α ≤ l.length * Enc.sz α := Nat.mul_le_mul_right _ hk
      omega
theorem own_len (a : Option Addr) (n m c : Nat) : (Value.slice a n c).ownBlock = (Value.slice a m c).ownBlock := by cases a <;> rfl
end Go.Proofs.YtbplapkcleipiaaGreatDoor
