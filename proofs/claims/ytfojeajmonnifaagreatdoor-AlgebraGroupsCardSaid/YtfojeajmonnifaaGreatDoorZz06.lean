/- Where a row lies behind an append; two rows of the call's own side by side; parts of rows that such growth leaves as they were. -/
import Derived.Test.YtfojeajmonnifaaGreatDoorZz01
import Derived.Test.YtfojeajmonnifaaGreatDoorZz04
import Derived.Test.YtfojeajmonnifaaGreatDoorZz05
namespace Go.Proofs.YtfojeajmonnifaaGreatDoor
open Go.ChangeShapes Go.WideShapes Go.ChangeAt Go.RowKit
variable {α : Type} [Enc α]

/-- in the same block, or in a new one -/
def Loc (w : World) (v v' : Value) : Prop := v'.ownBlock = v.ownBlock ∨ ∃ g, v'.ownBlock = some g ∧ w.heap.size ≤ g
theorem Loc.refl (w : World) (v : Value) : Loc w v v := .inl rfl
theorem Loc.trans {a b : World} {v1 v2 v3 : Value} (h : Loc a v1 v2) (k : Loc b v2 v3) (hs : a.heap.size ≤ b.heap.size) : Loc a v1 v3 := by
  rcases k with k | ⟨g, k1, k2⟩
  · rcases h with h | ⟨g, h1, h2⟩
    · exact .inl (k.trans h)
    · exact .inr ⟨g, k.trans h1, h2⟩
  · exact .inr ⟨g, k1, Nat.le_trans hs k2⟩
theorem run_appL (T : RowT α) {w : World} (ty : TypeId) (W : World) (v : Value) (l : List α) (hown : OwnG T.e W w v l) (vx : Value) (m : List α) (hrd : RdG w vx m) (hlen : l.length + m.length ≤ 137438953472) :
    ∃ v' w', (Builtin.append_ #[T.t, T.t] ty #[v, vx]).run Tryz.prog w = .ok v' w' ∧ OwnG T.e W w' v' (l ++ m) ∧ w.grownBy w' v.ownBlock ∧ Loc w v v' := by
  obtain ⟨i0, hi, hz0, hz1, hz2⟩ := info_parts T.hi
  obtain ⟨ad, cap, rfl, h1, h2, h3, h4⟩ := hrd
  cases ad with
  | some ad =>
    have hnews := RdG.news ⟨some ad, cap, rfl, h1, h2, h3, h4⟩
    obtain ⟨v', w', hr, ho', hg', _⟩ := run_append_own (P := Tryz.prog) w W.heap.size T.t ty T.e i0 T.zv (Enc.sz α) T.bytes T.hu hi hz0 hz1 hz2 T.zsz Enc.pos v l.length (cellsG l) hown.1 ad m.length cap (cellsG m) (cellsG_len m)
      hnews (cellsG_one m) (by unfold maxLen; omega) (T.fits _ hlen) hown.2.2.2
    refine ⟨v', w', hr, hown.grow hg' (by rw [cellsG_append, List.length_append]; exact ho'), hg', ?_⟩
    rcases hown.1.2 with ⟨rfl, hn0⟩ | ⟨g, cap', cur, rfl, hbg, hg, hnc, hcm, hcs, htake⟩
    · have hl0 : l = [] := List.eq_nil_of_length_eq_zero hn0
      obtain ⟨v2, w2, hr2, ho2, _, _⟩ := run_append_own (P := Tryz.prog) w w.heap.size T.t ty T.e i0 T.zv (Enc.sz α) T.bytes T.hu hi hz0 hz1 hz2 T.zsz Enc.pos (.slice none 0 0) 0 [] (World.ownsRow_nil w w.heap.size T.e (Enc.sz α)) ad m.length cap (cellsG m) (cellsG_len m)
        hnews (cellsG_one m) (by unfold maxLen; omega) (T.fits _ (by omega)) (Nat.le_refl _)
      rw [hr] at hr2
      obtain ⟨rfl, rfl⟩ : v' = v2 ∧ w' = w2 := by injection hr2 with a b; exact ⟨a, b⟩
      rcases ho2.2 with ⟨rfl, _⟩ | ⟨g, cap', cur, rfl, hbg, _⟩
      · exact .inl rfl
      · exact .inr ⟨g, rfl, hbg⟩
    · by_cases hroom : l.length + m.length ≤ cap'
      · obtain ⟨w2, hr2, _, _⟩ := run_append_fits (P := Tryz.prog) w W.heap.size T.t ty T.e i0 (Enc.sz α) T.hu hi hz1 g l.length cap' (cellsG l) hown.1 ad m.length cap (cellsG m) (cellsG_len m) hnews (cellsG_one m) hroom
        rw [hr] at hr2
        obtain ⟨rfl, rfl⟩ : v' = .slice (some ⟨g, 0, none⟩) (l.length + m.length) cap' ∧ w' = w2 := by injection hr2 with a b; exact ⟨a, b⟩
        exact .inl rfl
      · have hlo : (cellsG l).length = l.length * i0.size := by rw [hz1]; exact cellsG_len l
        have hr2 := run_append_grow (P := Tryz.prog) w T.t ty T.e i0 T.zv T.hu hi hz0 ⟨g, 0, none⟩ l.length cap' (cellsG l) hlo (hown.1.cells (g := g) rfl) ad m.length cap (cellsG m) (by rw [hz1]; exact cellsG_len m) hnews (by omega) (by omega)
          (growslice_fits (by omega) (by rw [hz2]; exact T.fits _ hlen))
        rw [hr] at hr2
        injection hr2 with a b
        rw [a]
        exact .inr ⟨_, rfl, Nat.le_refl _⟩
  | none =>
    have hm : m = [] := List.eq_nil_of_length_eq_zero (by have := h3 rfl; omega)
    subst hm
    obtain rfl := h3 rfl
    exact ⟨v, w, run_append_owned_none (P := Tryz.prog) w W.heap.size T.t ty T.e i0 (Enc.sz α) T.hu hi _ l.length (cellsG l) hown.1, by simpa using hown, World.grownBy.refl _ _, Loc.refl _ _⟩
theorem appGL (T : RowT α) {w : World} {ops : Array Oper} {rest : List Oper} {o : Oper} {a : Act} {Q : Exit → Act → World → Prop} (hgd : o.guard = none) (s x : Operand)
    (ho : o.op = .call { callee := .builtin .append, args := #[s, x], argTypes := #[T.t, T.t] })
    (W : World) (v : Value) (l : List α) (hs : a.eval s = v) (hown : OwnG T.e W w v l) (vx : Value) (m : List α) (hx : a.eval x = vx) (hrd : RdG w vx m) (hlen : l.length + m.length ≤ 137438953472)
    (h : ∀ v' w', OwnG T.e W w' v' (l ++ m) → w.grownBy w' v.ownBlock → Loc w v v' → wpList Tryz.prog ops Q rest (a.put o.dst v') w') : wpList Tryz.prog ops Q (o :: rest) a w := by
  obtain ⟨v', w', hr, h1, h2, h3⟩ := run_appL T o.type W v l hown vx m hrd hlen
  refine wpList_plain hgd fun K hK' => ?_
  unfold Oper.wp execOp
  simp only [ho, resolve, invoke, builtin, Sem.run_bind, Sem.run_pure, Result.andThen_ok, List.map_toArray, List.map_cons, List.map_nil, hs, hx, hr]
  exact hK' _ _ (h v' w' h1 h2 h3)
theorem step_appGL (T : RowT α) {w : World} {ops : Array Oper} {o : Oper} {a : Act} {K : Act → World → Prop} {Q : Exit → Act → World → Prop} {E : Prop} (hgd : o.guard = none) (s x : Operand)
    (ho : o.op = .call { callee := .builtin .append, args := #[s, x], argTypes := #[T.t, T.t] })
    (W : World) (v : Value) (l : List α) (hs : a.eval s = v) (hown : OwnG T.e W w v l) (vx : Value) (m : List α) (hx : a.eval x = vx) (hrd : RdG w vx m) (hlen : l.length + m.length ≤ 137438953472)
    (h : ∀ v' w', OwnG T.e W w' v' (l ++ m) → w.grownBy w' v.ownBlock → Loc w v v' → K (a.put o.dst v') w') :
    if Region.wanted o (yielded ops a.tmps) = true then Oper.wp Tryz.prog o a w K Q else E := by
  have hw : Region.wanted o (yielded ops a.tmps) = true := by simp [Region.wanted, hgd]
  rw [if_pos hw]
  obtain ⟨v', w', hr, h1, h2, h3⟩ := run_appL T o.type W v l hown vx m hrd hlen
  unfold Oper.wp execOp
  simp only [ho, resolve, invoke, builtin, Sem.run_bind, Sem.run_pure, Result.andThen_ok, List.map_toArray, List.map_cons, List.map_nil, hs, hx, hr]
  exact h v' w' h1 h2 h3
/-- what is left of a world by a call that may write into one block -/
structure Grw (w w' : World) (b : Option Nat) : Prop where
  os : w'.os = w.os
  out : w'.output = w.output
  size : w.heap.size ≤ w'.heap.size
  block : ∀ k, k < w.heap.size → some k ≠ b → w'.heap[k]? = w.heap[k]?
theorem grw_ext {w w' : World} (h : Ext w w') (b : Option Nat) : Grw w w' b := ⟨h.1.1, h.1.2.1, h.2.2, fun _ hk _ => ext_block h hk⟩
theorem grw_by {w w' : World} {b : Option Nat} (h : w.grownBy w' b) : Grw w w' b := ⟨h.os, h.output, h.size, h.block⟩
theorem Grw.refl (w : World) (b : Option Nat) : Grw w w b := ⟨rfl, rfl, Nat.le_refl _, fun _ _ _ => rfl⟩
theorem Grw.trans {a b c : World} {x y : Option Nat} (h : Grw a b x) (k : Grw b c y) (hy : y = x ∨ ∃ g, y = some g ∧ a.heap.size ≤ g) : Grw a c x :=
  ⟨k.os.trans h.os, k.out.trans h.out, Nat.le_trans h.size k.size, fun i hi hn => (k.block i (Nat.lt_of_lt_of_le hi h.size) (fun e => by
    rcases hy with rfl | ⟨g, rfl, hg⟩
    · exact hn e
    · injection e with e; omega)).trans (h.block i hi hn)⟩
theorem ext_grw {W w w' : World} {b : Option Nat} (h : Ext W w) (k : Grw w w' b) (hb : ∀ g, b = some g → W.heap.size ≤ g) : Ext W w' := by
  have hk : ∀ i, i < W.heap.size → w'.heap[i]? = w.heap[i]? := fun i hi => k.block i (Nat.lt_of_lt_of_le hi h.2.2) (fun e => by have := hb i e.symm; omega)
  refine ⟨⟨k.os.trans h.1.1, k.out.trans h.1.2.1, fun i hi => ?_⟩, fun a ha => (World.frozen?_of_block (hk _ ha)).trans (h.2.1 a ha), Nat.le_trans h.2.2 k.size⟩
  rw [hk i hi]
  exact h.1.2.2 i hi
/-- the block of a row of the call's own -/
def RowBlk (e : TypeId) (W w : World) (b : Option Nat) : Prop := ∀ g, b = some g → W.heap.size ≤ g ∧ ∃ cur, w.heap[g]? = some (.cells cur e (0, 0))
theorem OwnG.blk {e : TypeId} {W w : World} {v : Value} {l : List α} (h : OwnG e W w v l) : RowBlk e W w v.ownBlock := by
  rcases h.1.2 with ⟨rfl, _⟩ | ⟨g, cap, cur, rfl, hb, hg, _⟩
  · intro g hg; cases hg
  · intro g' hg'
    injection hg' with hg'
    subst hg'
    exact ⟨hb, cur, hg⟩
/-- a slice that no growth of such a row touches -/
def Off (e : TypeId) (W w : World) (u : Value) : Prop := ∀ g, u.ownBlock = some g → lenOf u ≠ 0 → g < W.heap.size ∨ ∃ cur e' fr, w.heap[g]? = some (.cells cur e' fr) ∧ e' ≠ e
theorem Off.ext {e : TypeId} {W w w' : World} {u : Value} (h : Off e W w u) (k : Ext w w') : Off e W w' u := fun g hg hl => by
  rcases h g hg hl with h | ⟨cur, e', fr, h1, h2⟩
  · exact .inl h
  · exact .inr ⟨cur, e', fr, k.block h1, h2⟩
theorem Off.grw {e : TypeId} {W w w' : World} {u : Value} {b : Option Nat} (h : Off e W w u) (k : Grw w w' b) (hb : RowBlk e W w b) : Off e W w' u := fun g hg hl => by
  rcases h g hg hl with h | ⟨cur, e', fr, h1, h2⟩
  · exact .inl h
  · refine .inr ⟨cur, e', fr, ?_, h2⟩
    rw [k.block g (Array.getElem?_eq_some_iff.1 h1).1 (fun he => by
      obtain ⟨_, c2, hc⟩ := hb g he.symm
      rw [h1] at hc
      injection hc with hc
      injection hc with _ hc
      exact h2 hc)]
    exact h1
theorem RdG.grw {e : TypeId} {W w w' : World} {u : Value} {l : List α} {b : Option Nat} (h : RdG w u l) (ho : Off e W w u) (k : Grw w w' b) (hb : RowBlk e W w b) : RdG w' u l := by
  obtain ⟨ad, cap, rfl, h1, h2, h3, h4⟩ := h
  refine ⟨ad, cap, rfl, h1, h2, h3, fun i hi => ?_⟩
  obtain ⟨g, o, rfl, c⟩ := h4 i hi
  refine ⟨g, o, rfl, fun j u hj => ?_⟩
  have hc := c j u hj
  have hlt : g < w.heap.size := World.block_lt_of_cell? _ _ hc
  rw [← hc]
  refine World.cell?_of_block (k.block g hlt (fun he => ?_))
  obtain ⟨hW, c2, hg2⟩ := hb g he.symm
  rcases ho g rfl (by simp only [lenOf]; omega) with h | ⟨cur, e', fr, h1', h2'⟩
  · omega
  · rw [h1'] at hg2
    injection hg2 with hg2
    injection hg2 with _ hg2
    exact h2' hg2
theorem owns_grw {w w' : World} {b : Option Nat} {base : Nat} {e : TypeId} {size : Nat} {v : Value} {n : Nat} {xs : List Value} (h : w.ownsRow base e size v n xs) (k : Grw w w' b) (hs : v.ownBlock = none ∨ v.ownBlock ≠ b) : w'.ownsRow base e size v n xs := by
  refine ⟨h.1, ?_⟩
  rcases h.2 with h2 | ⟨g, cap, cur, rfl, hg, hh, r⟩
  · exact .inl h2
  · refine .inr ⟨g, cap, cur, rfl, hg, ?_, r⟩
    rw [k.block g (Array.getElem?_eq_some_iff.1 hh).1 (fun e => by
      rcases hs with hs | hs
      · cases hs
      · exact hs e)]
    exact hh
theorem OwnG.grw {e : TypeId} {W w w' : World} {v : Value} {l : List α} {b : Option Nat} (h : OwnG e W w v l) (k : Grw w w' b) (hb : RowBlk e W w b) (hs : v.ownBlock = none ∨ v.ownBlock ≠ b) : OwnG e W w' v l :=
  ⟨owns_grw h.1 k hs, ext_grw h.2 k fun g hg => (hb g hg).1⟩
/-- a row of another kind lies off -/
theorem OwnG.off {e e' : TypeId} {W W2 w : World} {v : Value} {l : List α} (h : OwnG e' W2 w v l) (hne : e' ≠ e) : Off e W w v := fun g hg _ => by
  obtain ⟨_, cur, hc⟩ := h.blk g hg
  exact .inr ⟨cur, e', _, hc, hne⟩
/-- what an elder world holds lies off -/
theorem off_old {e : TypeId} {W w : World} {v : Value} {l : List α} (h : RdG W v l) : Off e W w v := fun g hg hl => by
  obtain ⟨ad, cap, rfl, h1, h2, h3, h4⟩ := h
  simp only [lenOf] at hl
  obtain ⟨g', o, rfl, c⟩ := h4 0 (by omega)
  injection hg with hg
  subst hg
  have hp := Enc.pos (α := α)
  have hz : 0 < (Enc.cells (l[0]'(by omega))).length := by rw [Enc.len]; exact hp
  have hc := World.block_lt_of_cell? _ _ (c 0 _ (List.getElem?_eq_getElem hz))
  exact .inl hc
theorem OwnG.lt {e : TypeId} {W w : World} {v : Value} {l : List α} (h : OwnG e W w v l) (g : Nat) (hg : v.ownBlock = some g) : g < w.heap.size := by
  obtain ⟨_, cur, hc⟩ := h.blk g hg
  exact (Array.getElem?_eq_some_iff.1 hc).1
end Go.Proofs.YtfojeajmonnifaaGreatDoor
/- Contracts of Valid, of the program and of the reference. -/
namespace Go.Proofs.YtfojeajmonnifaaGreatDoor
open Go.ChangeShapes Go.WideShapes Go.ChangeAt Go.RowKit

theorem kinds (k : Int) : k = 0 ∨ k = 1 ∨ k = 2 ∨ k = 3 ∨ (k ≠ 0 ∧ k ≠ 1 ∧ k ≠ 2 ∧ k ≠ 3) := by omega
set_option maxHeartbeats 1000000 in
theorem vld_val (v : V) (w : World) : Calls Tryz.prog 196 #[vv v] w fun e w' => e = .returned (.bool (vldB v)) ∧ Grown w w' := by
  obtain ⟨k, n, s⟩ := v
  rcases kinds k with rfl | rfl | rfl | rfl | ⟨h0, h1, h2, h3⟩
  all_goals
    go_enter Tryz.func196, Tryz.ntmps196
    go_wp2
    all_goals
      go_ret
      exact ⟨ret_bool (by first | (simp [vldB, *]; done) | (simp_all [vldB]; done) | (simp [vldB, *]; omega) | (rw [Bool.eq_iff_iff]; simp [vldB, *] <;> omega)), (Grown.refl _).alloc _ _⟩
set_option maxHeartbeats 1000000 in
theorem vld_ref (v : V) (w : World) : Calls Tryz.prog 171 #[vv v] w fun e w' => e = .returned (.bool (vldB v)) ∧ Grown w w' := by
  obtain ⟨k, n, s⟩ := v
  rcases kinds k with rfl | rfl | rfl | rfl | ⟨h0, h1, h2, h3⟩
  all_goals
    go_enter Tryz.func171, Tryz.ntmps171
    go_wp2
    all_goals
      go_ret
      exact ⟨ret_bool (by first | (simp [vldB, *]; done) | (simp_all [vldB]; done) | (simp [vldB, *]; omega) | (rw [Bool.eq_iff_iff]; simp [vldB, *] <;> omega)), (Grown.refl _).alloc _ _⟩
end Go.Proofs.YtfojeajmonnifaaGreatDoor
/- Small functions of the program: operators, indexes, legal operands, types. -/
namespace Go.Proofs.YtfojeajmonnifaaGreatDoor
open Go.ChangeShapes Go.WideShapes Go.ChangeAt Go.RowKit

abbrev xv (x : X) : Value := .agg #[.int .i64 x.op, .int .i64 x.a, .int .i64 x.b, .int .i64 x.col, .int .i64 x.c.k, .int .i64 x.c.n, sv x.c.s]
abbrev kv (p : Int × Int) : Value := .agg #[.int .i64 p.1, .int .i64 p.2]
theorem opc (op : Int) : op = 1 ∨ op = 2 ∨ op = 3 ∨ op = 4 ∨ op = 5 ∨ op = 6 ∨ op = 7 ∨ op = 8 ∨ op = 9 ∨ op = 10 ∨ op = 11 ∨
    (op ≠ 1 ∧ op ≠ 2 ∧ op ≠ 3 ∧ op ≠ 4 ∧ op ≠ 5 ∧ op ≠ 6 ∧ op ≠ 7 ∧ op ≠ 8 ∧ op ≠ 9 ∧ op ≠ 10 ∧ op ≠ 11) := by omega
theorem ari_none (op : Int) (h1 : op ≠ 1) (h2 : op ≠ 2) (h3 : op ≠ 3) (h4 : op ≠ 4) (h5 : op ≠ 5) (h6 : op ≠ 6) (h7 : op ≠ 7) (h8 : op ≠ 8) (h9 : op ≠ 9) (h10 : op ≠ 10) (h11 : op ≠ 11) : ari op = -1 := by
  unfold ari; rw [if_neg (by omega), if_neg (by omega), if_neg (by omega)]
set_option maxHeartbeats 1000000 in
theorem ari_prg (op : Int) (w : World) : Calls Tryz.prog 195 #[.int .i64 op] w fun e w' => e = .returned (.int .i64 (ari op)) ∧ w = w' := by
  rcases opc op with rfl | rfl | rfl | rfl | rfl | rfl | rfl | rfl | rfl | rfl | rfl | ⟨h1, h2, h3, h4, h5, h6, h7, h8, h9, h10, h11⟩
  case inr.inr.inr.inr.inr.inr.inr.inr.inr.inr.inr =>
    have H := Lib.hid (ari_none op h1 h2 h3 h4 h5 h6 h7 h8 h9 h10 h11)
    go_enter Tryz.func195, Tryz.ntmps195
    go_wp2
    go_ret
    exact ⟨ret_int H.out.symm, rfl⟩
  all_goals
    go_enter Tryz.func195, Tryz.ntmps195
    go_wp2
    go_ret
    exact ⟨ret_int (by decide), rfl⟩
set_option maxHeartbeats 1000000 in
theorem ari_ref (op : Int) (w : World) : Calls Tryz.prog 147 #[.int .i64 op] w fun e w' => e = .returned (.int .i64 (ari op)) ∧ w = w' := by
  rcases opc op with rfl | rfl | rfl | rfl | rfl | rfl | rfl | rfl | rfl | rfl | rfl | ⟨h1, h2, h3, h4, h5, h6, h7, h8, h9, h10, h11⟩
  case inr.inr.inr.inr.inr.inr.inr.inr.inr.inr.inr =>
    have H := Lib.hid (ari_none op h1 h2 h3 h4 h5 h6 h7 h8 h9 h10 h11)
    go_enter Tryz.func147, Tryz.ntmps147
    go_wp2
    go_ret
    exact ⟨ret_int H.out.symm, rfl⟩
  all_goals
    go_enter Tryz.func147, Tryz.ntmps147
    go_wp2
    go_ret
    exact ⟨ret_int (by decide), rfl⟩
theorem isx_prg (i n : Int) (w : World) : Calls Tryz.prog 185 #[.int .i64 i, .int .i64 n] w fun e w' => e = .returned (.bool (isIx i n)) ∧ w = w' := by
  by_cases h0 : 0 ≤ i
  · by_cases h1 : i < n
    · have H := Lib.hid (show isIx i n = true by rw [isIx_iff]; exact ⟨h0, h1⟩)
      go_enter Tryz.func185, Tryz.ntmps185
      go_wp2
      go_ret
      exact ⟨ret_bool H.out.symm, rfl⟩
    · have H := Lib.hid (show isIx i n = false by rw [isIx_no]; omega)
      go_enter Tryz.func185, Tryz.ntmps185
      go_wp2
      go_ret
      exact ⟨ret_bool H.out.symm, rfl⟩
  · have H := Lib.hid (show isIx i n = false by rw [isIx_no]; omega)
    go_enter Tryz.func185, Tryz.ntmps185
    go_wp2
    go_ret
    exact ⟨ret_bool H.out.symm, rfl⟩
theorem acc_prg (want k : Int) (w : World) : Calls Tryz.prog 208 #[.int .i64 want, .int .i64 k] w fun e w' => e = .returned (.bool (accB want k)) ∧ w = w' := by
  by_cases h0 : k = want
  · have H := Lib.hid (show accB want k = true by simp [accB, h0])
    subst h0
    go_enter Tryz.func208, Tryz.ntmps208
    go_wp2
    go_ret
    exact ⟨ret_bool H.out.symm, rfl⟩
  · by_cases h1 : k = 0
    · have H := Lib.hid (show accB want k = true by simp [accB, h1])
      subst h1
      go_enter Tryz.func208, Tryz.ntmps208
      go_wp2
      go_ret
      exact ⟨ret_bool H.out.symm, rfl⟩
    · have H := Lib.hid (show accB want k = false by simp [accB, h0, h1])
      go_enter Tryz.func208, Tryz.ntmps208
      go_wp2
      go_ret
      exact ⟨ret_bool (by rw [H.out]; simp [h0, h1]), rfl⟩
theorem fits_ref (k want : Int) (w : World) : Calls Tryz.prog 172 #[.int .i64 k, .int .i64 want] w fun e w' => e = .returned (.bool (accB want k)) ∧ w = w' := by
  by_cases h0 : k = want
  · have H := Lib.hid (show accB want k = true by simp [accB, h0])
    subst h0
    go_enter Tryz.func172, Tryz.ntmps172
    go_wp2
    go_ret
    exact ⟨ret_bool H.out.symm, rfl⟩
  · by_cases h1 : k = 0
    · have H := Lib.hid (show accB want k = true by simp [accB, h1])
      subst h1
      go_enter Tryz.func172, Tryz.ntmps172
      go_wp2
      go_ret
      exact ⟨ret_bool H.out.symm, rfl⟩
    · have H := Lib.hid (show accB want k = false by simp [accB, h0, h1])
      go_enter Tryz.func172, Tryz.ntmps172
      go_wp2
      go_ret
      exact ⟨ret_bool (by rw [H.out]; simp [h0, h1]), rfl⟩
set_option maxHeartbeats 1000000 in
theorem lgA_prg (x : X) (i : Int) (w : World) : Calls Tryz.prog 200 #[xv x, .int .i64 i] w fun e w' => e = .returned (.bool (lgA x i)) ∧ Grown w w' := by
  obtain ⟨op, a, b, col, ⟨k, n, s⟩⟩ := x
  have hA := ari_prg op
  have hI := isx_prg a i
  have hv := ari_vals op
  by_cases h : 1 ≤ ari op
  · have H := Lib.hid (show lgA ⟨op, a, b, col, ⟨k, n, s⟩⟩ i = isIx a i by simp [lgA, h])
    generalize ari op = r at *
    have HA := Lib.hid hA
    have HI := Lib.hid hI
    clear hA hI hv
    go_enter Tryz.func200, Tryz.ntmps200
    go_wp2_with fail
    refine (HA.out _).mono ?_; rintro e w1 ⟨rfl, rfl⟩
    go_wp2_with fail
    refine (HI.out _).mono ?_; rintro e w1 ⟨rfl, rfl⟩
    go_wp2_with fail
    go_ret
    exact ⟨ret_bool H.out.symm, (Grown.refl _).alloc _ _⟩
  · have H := Lib.hid (show lgA ⟨op, a, b, col, ⟨k, n, s⟩⟩ i = false by simp [lgA, h])
    generalize ari op = r at *
    have HA := Lib.hid hA
    clear hA hI hv
    go_enter Tryz.func200, Tryz.ntmps200
    go_wp2_with fail
    refine (HA.out _).mono ?_; rintro e w1 ⟨rfl, rfl⟩
    go_wp2_with fail
    go_ret
    exact ⟨ret_bool H.out.symm, (Grown.refl _).alloc _ _⟩
set_option maxHeartbeats 1000000 in
theorem lgB_prg (x : X) (i : Int) (w : World) : Calls Tryz.prog 201 #[xv x, .int .i64 i] w fun e w' => e = .returned (.bool (lgB x i)) ∧ Grown w w' := by
  obtain ⟨op, a, b, col, ⟨k, n, s⟩⟩ := x
  have hA := ari_prg op
  have hI := isx_prg b i
  by_cases h : ari op = 2
  · have H := Lib.hid (show lgB ⟨op, a, b, col, ⟨k, n, s⟩⟩ i = isIx b i by simp [lgB, h])
    rw [h] at hA
    have HA := Lib.hid hA
    have HI := Lib.hid hI
    clear hA hI h
    go_enter Tryz.func201, Tryz.ntmps201
    go_wp2_with fail
    refine (HA.out _).mono ?_; rintro e w1 ⟨rfl, rfl⟩
    go_wp2_with fail
    refine (HI.out _).mono ?_; rintro e w1 ⟨rfl, rfl⟩
    go_wp2_with fail
    go_ret
    exact ⟨ret_bool H.out.symm, (Grown.refl _).alloc _ _⟩
  · have H := Lib.hid (show lgB ⟨op, a, b, col, ⟨k, n, s⟩⟩ i = false by simp [lgB, h])
    generalize ari op = r at *
    have HA := Lib.hid hA
    clear hA hI
    go_enter Tryz.func201, Tryz.ntmps201
    go_wp2_with fail
    refine (HA.out _).mono ?_; rintro e w1 ⟨rfl, rfl⟩
    go_wp2_with fail
    go_ret
    exact ⟨ret_bool H.out.symm, (Grown.refl _).alloc _ _⟩
theorem lgl_one {x : X} {i : Int} (h : ari x.op = 1) : lgl x i = lgA x i := by simp [lgl, lgA, h]
theorem lgl_two {x : X} {i : Int} (h : ari x.op = 2) : lgl x i = (lgA x i && lgB x i) := by simp [lgl, lgA, lgB, h]
theorem lgl_none {x : X} {i : Int} (h : ari x.op < 1) : lgl x i = true := by simp [lgl]; omega
set_option maxHeartbeats 2000000 in
theorem lgl_prg (x : X) (i : Int) (w : World) : Calls Tryz.prog 197 #[xv x, .int .i64 i] w fun e w' => e = .returned (.bool (lgl x i)) ∧ Grown w w' := by
  have hv := ari_vals x.op
  have hA := ari_prg x.op
  have hLA := lgA_prg x i
  have hLB := lgB_prg x i
  have h1 := @lgl_one x i
  have h2 := @lgl_two x i
  have h0 := @lgl_none x i
  obtain ⟨op, a, b, col, ⟨k, n, s⟩⟩ := x
  simp only at hv hA h0 h1 h2
  have HLA := Lib.hid hLA
  have HLB := Lib.hid hLB
  clear hLA hLB
  rcases hv with h | h | h | h
  · rw [h] at hA
    have HA := Lib.hid hA
    have H := Lib.hid (h0 (by omega))
    clear hA h h0 h1 h2
    go_enter Tryz.func197, Tryz.ntmps197
    go_wp2_with fail
    refine (HA.out _).mono ?_; rintro e w1 ⟨rfl, rfl⟩
    go_wp2_with fail
    go_ret
    exact ⟨ret_bool H.out.symm, (Grown.refl _).alloc _ _⟩
  · rw [h] at hA
    have HA := Lib.hid hA
    have H := Lib.hid (h0 (by omega))
    clear hA h h0 h1 h2
    go_enter Tryz.func197, Tryz.ntmps197
    go_wp2_with fail
    refine (HA.out _).mono ?_; rintro e w1 ⟨rfl, rfl⟩
    go_wp2_with fail
    go_ret
    exact ⟨ret_bool H.out.symm, (Grown.refl _).alloc _ _⟩
  · rw [h] at hA
    have HA := Lib.hid hA
    have H := Lib.hid (h1 h)
    clear hA h h0 h1 h2
    go_enter Tryz.func197, Tryz.ntmps197
    go_wp2_with fail
    refine (HA.out _).mono ?_; rintro e w1 ⟨rfl, rfl⟩
    go_wp2_with fail
    refine (HLA.out _).mono ?_; rintro e w1 ⟨rfl, hg⟩
    go_wp2_with fail
    go_ret
    exact ⟨ret_bool H.out.symm, grown_trans ((Grown.refl _).alloc _ _) hg⟩
  · rw [h] at hA
    have HA := Lib.hid hA
    have H := Lib.hid (h2 h)
    clear hA h h0 h1 h2
    go_enter Tryz.func197, Tryz.ntmps197
    go_wp2_with fail
    refine (HA.out _).mono ?_; rintro e w1 ⟨rfl, rfl⟩
    cases hl : lgA ⟨op, a, b, col, ⟨k, n, s⟩⟩ i with
    | false =>
      have HLA' := Lib.hid (hl ▸ HLA.out)
      rw [hl] at H
      clear hl
      go_wp2_with fail
      refine (HLA'.out _).mono ?_; rintro e w1 ⟨rfl, hg⟩
      go_wp2_with fail
      go_ret
      exact ⟨ret_bool H.out.symm, grown_trans ((Grown.refl _).alloc _ _) hg⟩
    | true =>
      have HLA' := Lib.hid (hl ▸ HLA.out)
      rw [hl] at H
      clear hl
      go_wp2_with fail
      refine (HLA'.out _).mono ?_; rintro e w2 ⟨rfl, hg⟩
      obtain ⟨hc, hf⟩ := gcell hg
      have hs : w.heap.size < w2.heap.size := by have := hg.2.2; rw [alsz] at this; omega
      go_wp2_with fail
      refine (HLB.out _).mono ?_; rintro e w3 ⟨rfl, hg2⟩
      go_wp2_with fail
      go_ret
      exact ⟨ret_bool H.out.symm, grown_trans (grown_trans ((Grown.refl _).alloc _ _) hg) hg2⟩
end Go.Proofs.YtfojeajmonnifaaGreatDoor
/- How numbers, marks, values, expressions and types lie in cells. -/
namespace Go.Proofs.YtfojeajmonnifaaGreatDoor
open Go.ChangeShapes Go.WideShapes Go.ChangeAt Go.RowKit

instance : Enc Bool := ⟨1, by decide, fun b => [.bool b], fun _ => rfl, fun a u h => by simp at h; subst h; rfl⟩
instance : Enc (Int × Int) := ⟨2, by decide, fun p => [.int .i64 p.1, .int .i64 p.2], fun _ => rfl, fun a u h => by simp at h; rcases h with rfl | rfl <;> rfl⟩
instance : Enc X := ⟨7, by decide, fun x => [.int .i64 x.op, .int .i64 x.a, .int .i64 x.b, .int .i64 x.col, .int .i64 x.c.k, .int .i64 x.c.n, sv x.c.s], fun _ => rfl,
  fun a u h => by simp at h; rcases h with rfl | rfl | rfl | rfl | rfl | rfl | rfl <;> rfl⟩
def tB : RowT Bool := ⟨4, 235, false, .bool false, 1, Tryz.underlying235, by kernel_rfl, by rfl, by decide⟩
def tK : RowT (Int × Int) := ⟨233, 231, (0, 0), .agg #[.int .i64 0, .int .i64 0], 16, Tryz.underlying231, by kernel_rfl, by rfl, by decide⟩
def tKr : RowT (Int × Int) := ⟨187, 185, (0, 0), .agg #[.int .i64 0, .int .i64 0], 16, Tryz.underlying185, by kernel_rfl, by rfl, by decide⟩
def tX : RowT X := ⟨80, 23, nulX, .agg #[.int .i64 0, .int .i64 0, .int .i64 0, .int .i64 0, .int .i64 0, .int .i64 0, sv []], 64, Tryz.underlying23, by kernel_rfl, by rfl, by decide⟩
/- the cells of one element, by the element's kind -/
theorem rd_B {w : World} {ad : Option Addr} {n cap : Nat} {l : List Bool} (h : RdG w (.slice ad n cap) l) (i : Nat) (hi : i < l.length) : ∃ g o, ad = some ⟨g, o, none⟩ ∧ w.cell? ⟨g, o + i, none⟩ = some (.bool l[i]) := by
  obtain ⟨g, o, e, c⟩ := h.at i hi
  exact ⟨g, o, e, by have := c 0 _ rfl; simpa [Enc.sz] using this⟩
theorem rd_K {w : World} {ad : Option Addr} {n cap : Nat} {l : List (Int × Int)} (h : RdG w (.slice ad n cap) l) (i : Nat) (hi : i < l.length) : ∃ g o, ad = some ⟨g, o, none⟩ ∧ w.cell? ⟨g, o + i * 2, none⟩ = some (.int .i64 l[i].1) ∧ w.cell? ⟨g, o + i * 2 + 1, none⟩ = some (.int .i64 l[i].2) := by
  obtain ⟨g, o, e, c⟩ := h.at i hi
  exact ⟨g, o, e, c 0 _ rfl, c 1 _ rfl⟩
theorem rd_X {w : World} {ad : Option Addr} {n cap : Nat} {l : List X} (h : RdG w (.slice ad n cap) l) (i : Nat) (hi : i < l.length) : ∃ g o, ad = some ⟨g, o, none⟩ ∧ w.cell? ⟨g, o + i * 7, none⟩ = some (.int .i64 l[i].op) ∧ w.cell? ⟨g, o + i * 7 + 1, none⟩ = some (.int .i64 l[i].a) ∧ w.cell? ⟨g, o + i * 7 + 2, none⟩ = some (.int .i64 l[i].b) ∧ w.cell? ⟨g, o + i * 7 + 3, none⟩ = some (.int .i64 l[i].col) ∧
    w.cell? ⟨g, o + i * 7 + 4, none⟩ = some (.int .i64 l[i].c.k) ∧ w.cell? ⟨g, o + i * 7 + 5, none⟩ = some (.int .i64 l[i].c.n) ∧ w.cell? ⟨g, o + i * 7 + 6, none⟩ = some (sv l[i].c.s) := by
  obtain ⟨g, o, e, c⟩ := h.at i hi
  exact ⟨g, o, e, c 0 _ rfl, c 1 _ rfl, c 2 _ rfl, c 3 _ rfl, c 4 _ rfl, c 5 _ rfl, c 6 _ rfl⟩
end Go.Proofs.YtfojeajmonnifaaGreatDoor
