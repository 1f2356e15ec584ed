/- One more row in its class. -/
import Derived.Deep.AppendLies
import Derived.Test.YtbplapkcleipiaaGreatDoorZz28
namespace Go.Proofs.YtbplapkcleipiaaGreatDoor
open Go.ChangeShapes Go.WideShapes Go.ChangeAt Go.RowKit

/-- where the class of these values stands -/
def ixC (cs : List Cl) (v : List V) : Option Nat := cs.findIdx? fun c => decide (c.1 = v)
theorem ixC_some {cs : List Cl} {v : List V} {j : Nat} (h : ixC cs v = some j) : ∃ hj : j < cs.length, cs[j].1 = v := by
  unfold ixC at h
  obtain ⟨hj, h1, _⟩ := List.findIdx?_eq_some_iff_getElem.1 h
  exact ⟨hj, by simpa using h1⟩
theorem ixC_none {cs : List Cl} {v : List V} (h : ixC cs v = none) : ∀ c ∈ cs, c.1 ≠ v := by
  unfold ixC at h
  intro c hc e
  have := List.findIdx?_eq_none_iff.1 h c hc
  simp [e] at this
theorem ixC_snoc (cs : List Cl) (c : Cl) (v : List V) (h : ixC cs c.1 = none) : ixC (cs ++ [c]) v = if v = c.1 then some cs.length else ixC cs v := by
  unfold ixC at *
  rw [List.findIdx?_append]
  by_cases hv : v = c.1
  · subst hv; rw [h, if_pos rfl]; simp
  · rw [if_neg hv]
    have : ([c].findIdx? fun c => decide (c.1 = v)) = none := by simp [List.findIdx?_cons, Ne.symm hv]
    rw [this]; simp
theorem ixC_keys {cs cs' : List Cl} (h : cs.map Prod.fst = cs'.map Prod.fst) (v : List V) : ixC cs v = ixC cs' v := by
  have key : ∀ l : List Cl, ixC l v = (l.map Prod.fst).findIdx? (fun u => decide (u = v)) := fun l => by
    unfold ixC; rw [List.findIdx?_map]; rfl
  rw [key, key, h]
theorem addC_new (f : R → List V) (cs : List Cl) (r : R) (h : ixC cs (f r) = none) : addC f cs r = cs ++ [(f r, [r])] := by
  unfold addC
  rw [if_neg]
  intro e
  obtain ⟨c, hc, e⟩ := List.any_eq_true.1 e
  exact ixC_none h c hc (by simpa using e)
theorem addC_known (f : R → List V) (cs : List Cl) (r : R) (hn : (cs.map Prod.fst).Nodup) (j : Nat) (h : ixC cs (f r) = some j) (hj : j < cs.length) : addC f cs r = cs.set j (f r, cs[j].2 ++ [r]) := by
  obtain ⟨_, e⟩ := ixC_some h
  unfold addC
  rw [if_pos (List.any_eq_true.2 ⟨cs[j], List.getElem_mem _, by simpa using e⟩)]
  refine List.ext_getElem (by simp) fun i h1 h2 => ?_
  rw [List.getElem_map, List.getElem_set]
  by_cases hij : j = i
  · subst hij; rw [if_pos e, if_pos rfl, e]
  · rw [if_neg hij, if_neg]
    intro e2
    have hi : i < cs.length := by simpa using h1
    have hp := List.pairwise_iff_getElem.1 hn
    rcases Nat.lt_or_gt_of_ne hij with hlt | hlt
    · exact hp j i (by simpa using hj) (by simpa using hi) hlt (by simp [e, e2])
    · exact hp i j (by simpa using hi) (by simpa using hj) hlt (by simp [e, e2])
theorem clsF_step (f : R → List V) (l : List R) (k : Nat) (h : k < l.length) : clsF f (l.take (k + 1)) = addC f (clsF f (l.take k)) l[k] := by
  unfold clsF
  rw [List.take_succ_eq_append_getElem h, List.foldl_append]; rfl
/- memory -/
theorem cells_set1 (l : List ClP) (i : Nat) (hi : i < l.length) (c' : ClP) (hx : c'.h.x = l[i].h.x) : (cellsG l).set (i * 2 + 1) c'.h.y = cellsG (l.set i c') := by
  have h := cellsG_set l i c' hi
  have e : setL (cellsG l) (i * Enc.sz ClP) (Enc.cells c') = ((cellsG l).set (i * 2) c'.h.x).set (i * 2 + 1) c'.h.y := rfl
  rw [e] at h
  rw [← h]
  congr 1
  have h0 := cellsG_at l i 0 hi (by decide)
  have h1 : (cellsG l)[i * 2]? = some l[i].h.x := h0
  obtain ⟨h2, h3⟩ := List.getElem?_eq_some_iff.1 h1
  refine List.ext_getElem (by simp) fun j j1 j2 => ?_
  rw [List.getElem_set]
  by_cases hij : i * 2 = j
  · subst hij; rw [if_pos rfl, hx]; exact h3
  · rw [if_neg hij]
theorem pair_set {α : Type} {Rl : α → α → Prop} {l : List α} (h : l.Pairwise Rl) (i : Nat) (c : α) (h1 : ∀ j (hj : j < l.length), j ≠ i → Rl l[j] c ∧ Rl c l[j]) : (l.set i c).Pairwise Rl := by
  rw [List.pairwise_iff_getElem] at h ⊢
  intro a b ha hb hab
  have ha' : a < l.length := by simpa using ha
  have hb' : b < l.length := by simpa using hb
  rw [List.getElem_set, List.getElem_set]
  by_cases hia : i = a
  · rw [if_pos hia, if_neg (by omega)]; exact (h1 b hb' (by omega)).2
  · rw [if_neg hia]
    by_cases hib : i = b
    · rw [if_pos hib]; exact (h1 a ha' (by omega)).1
    · rw [if_neg hib]; exact h a b ha' hb' hab
theorem dis_at {fr : Bool} {S : Nat → Prop} {W w : World} {vc : Value} {cps : List ClP} {ps0 : List P} (h : ClsI fr S W w vc cps ps0) (i j : Nat) (hi : i < cps.length) (hj : j < cps.length) (hij : i ≠ j) :
    Dis cps[i].h.y cps[j].h.y ∧ (fr = true → Dis cps[i].h.x cps[j].h.x) := by
  have hp := List.pairwise_iff_getElem.1 h.dis
  rcases Nat.lt_or_gt_of_ne hij with hlt | hlt
  · exact hp i j hi hj hlt
  · obtain ⟨a, b⟩ := hp j i hj hi hlt
    exact ⟨a.symm, fun f => (b f).symm⟩
/-- the row is put behind the rows of class i, and the class told -/
theorem ClsI.row {fr : Bool} {S : Nat → Prop} {W w w1 : World} {g n cap : Nat} {cps : List ClP} {ps0 : List P} (h : ClsI fr S W w (.slice (some ⟨g, 0, none⟩) n cap) cps ps0) (i : Nat) (hi : i < cps.length) {p : P} (hp : p ∈ ps0)
    {b : Option Addr} {m d : Nat} (ho : OwnG tP.e W w1 (.slice b m d) (cps[i].ps ++ [p])) (hg : Grw w w1 cps[i].h.y.ownBlock) (hl : Loc w cps[i].h.y (.slice b m d)) :
    ClsI fr S W (w1.setCell ⟨g, i * 2 + 1, none⟩ (.slice b m d)) (.slice (some ⟨g, 0, none⟩) n cap) (cps.set i ⟨⟨cps[i].h.a, cps[i].h.n, cps[i].h.c, b, m, d⟩, cps[i].v, cps[i].ps ++ [p]⟩) ps0 := by
  have hri := (h.rws cps[i] (List.getElem_mem _)).1
  have hb1 : ∀ q, cps[i].h.y.ownBlock = some q → W.heap.size ≤ q := fun q hq => (hri.blk q hq).1
  -- behind the append
  have own1 : OwnG tCl.e W w1 (.slice (some ⟨g, 0, none⟩) n cap) cps := h.own.other hg hb1 (h.own.apart hri (by decide))
  have rws1 : ∀ j (hj : j < cps.length), j ≠ i → OwnG tP.e W w1 cps[j].h.y cps[j].ps := fun j hj hji => by
    refine (h.rws cps[j] (List.getElem_mem _)).1.other hg hb1 ?_
    cases e : cps[j].h.y.ownBlock with
    | none => exact .inl rfl
    | some q => exact .inr fun e2 => (dis_at h j i hj hi hji).1 q e e2.symm
  have val1 : ∀ c ∈ cps, VOk fr S W w1 c := fun c hc => by
    obtain ⟨v1, v2, v3, v4⟩ := h.val c hc
    exact ⟨⟨v1.1.grw v2 hg hri.blk, v1.2⟩, v2.grw hg hri.blk, off_other v3 v2 hg hri.blk, fun f => (v4 f).other hg hb1 ((v4 f).apart hri (by decide))⟩
  -- behind the store
  have k2 := set_grw w1 g (i * 2 + 1) (.slice b m d)
  have hgW : W.heap.size ≤ g := (own1.blk g rfl).1
  have hb2 : ∀ q, some g = some q → W.heap.size ≤ q := fun q hq => by injection hq with hq; omega
  have hbk : RowBlk tCl.e W w1 (some g) := own1.blk
  have val2 : ∀ c ∈ cps, VOk fr S W (w1.setCell ⟨g, i * 2 + 1, none⟩ (.slice b m d)) c := fun c hc => by
    obtain ⟨v1, v2, v3, v4⟩ := val1 c hc
    exact ⟨⟨v1.1.grw v3 k2 hbk, v1.2⟩, off_other v2 v3 k2 hbk, v3.grw k2 hbk, fun f => (v4 f).other k2 hb2 ((v4 f).apart own1 (by decide))⟩
  have hn : n = cps.length := by
    rcases own1.1.2 with ⟨e, _⟩ | ⟨g', c', cur, e, _⟩
    · cases e
    · injection e
  subst hn
  obtain ⟨s1, s2⟩ := own1.1.stored (i * 2 + 1) (.slice b m d)
  have hset := cells_set1 cps i hi ⟨⟨cps[i].h.a, cps[i].h.n, cps[i].h.c, b, m, d⟩, cps[i].v, cps[i].ps ++ [p]⟩ rfl
  refine ⟨own1.grow s2 (by rw [← hset, List.length_set]; exact s1), fun c hc => ?_, fun c hc => ?_, ?_⟩
  · obtain ⟨j, hj, rfl⟩ := List.mem_iff_getElem.1 hc
    have hj' : j < cps.length := by simpa using hj
    rw [List.getElem_set]
    by_cases hij : i = j
    · rw [if_pos hij]
      refine ⟨ho.other k2 hb2 (ho.apart own1 (by decide)), fun q hq => ?_⟩
      rcases List.mem_append.1 hq with hq | hq
      · exact (h.rws cps[i] (List.getElem_mem _)).2 q hq
      · simp only [List.mem_singleton] at hq; subst hq; exact hp
    · rw [if_neg hij]
      exact ⟨(rws1 j hj' (Ne.symm hij)).other k2 hb2 ((rws1 j hj' (Ne.symm hij)).apart own1 (by decide)), (h.rws cps[j] (List.getElem_mem _)).2⟩
  · obtain ⟨j, hj, rfl⟩ := List.mem_iff_getElem.1 hc
    rw [List.getElem_set]
    by_cases hij : i = j
    · rw [if_pos hij]; exact val2 cps[i] (List.getElem_mem _)
    · rw [if_neg hij]; exact val2 _ (List.getElem_mem _)
  · refine pair_set h.dis i _ fun j hj hji => ?_
    have hd := dis_at h j i hj hi hji
    have hy : Dis (.slice b m d) cps[j].h.y := fun q hq e => by
      rcases hl with hl | ⟨q', hq', hle⟩
      · rw [hl] at hq; exact hd.1 q e hq
      · rw [hq'] at hq; injection hq with hq; subst hq
        have := (h.rws cps[j] (List.getElem_mem _)).1.lt q' e
        omega
    exact ⟨⟨hy.symm, hd.2⟩, hy, fun f => (hd.2 f).symm⟩
theorem ixC_at {cps : List ClP} {v : List V} {j : Nat} (h : ixC (cps.map ClP.d) v = some j) : ∃ c, cps[j]? = some c ∧ c.v = v := by
  obtain ⟨hj, e⟩ := ixC_some h
  have hj' : j < cps.length := by simpa using hj
  rw [List.getElem_map] at e
  exact ⟨cps[j], List.getElem?_eq_getElem hj', e⟩
/-- what the walk reads of class j -/
theorem ClsI.at {fr : Bool} {S : Nat → Prop} {W w : World} {vc : Value} {cps : List ClP} {ps0 : List P} (h : ClsI fr S W w vc cps ps0) {j : Nat} {c : ClP} (hj : cps[j]? = some c) :
    ∃ g cap, vc = .slice (some ⟨g, 0, none⟩) cps.length cap ∧ j < cps.length ∧ cps.length ≤ cap ∧ cap ≤ maxLen ∧ w.cell? ⟨g, j * 2, none⟩ = some c.h.x ∧ w.cell? ⟨g, j * 2 + 1, none⟩ = some c.h.y ∧ w.frozen? ⟨g, j * 2 + 1, none⟩ = false ∧ g < w.heap.size ∧ OwnG tP.e W w c.h.y c.ps ∧
      ∀ kk, c.h.y.ownBlock = some kk → kk ≠ g := by
  obtain ⟨hl, rfl⟩ := List.getElem?_eq_some_iff.1 hj
  rcases h.own.1.2 with ⟨rfl, h0⟩ | ⟨g, cap, cur, rfl, hb, hg, hnc, hcm, hcs, htk⟩
  · exact absurd h0 (by omega)
  obtain ⟨g', o', e', hc⟩ := h.own.rd.at j hl
  simp only [Option.some.injEq, Addr.mk.injEq, and_true] at e'
  obtain ⟨rfl, rfl⟩ := e'
  have q0 := hc 0 _ rfl
  have q1 := hc 1 _ rfl
  simp only [Enc.sz, Nat.zero_add, Nat.add_zero] at q0 q1
  have hri := (h.rws cps[j] (List.getElem_mem _)).1
  refine ⟨g, cap, rfl, hl, hnc, hcm, q0, q1, h.own.1.frozenAt _, (Array.getElem?_eq_some_iff.1 hg).1, hri, fun kk hk e => ?_⟩
  subst e
  rcases hri.apart h.own (by decide) with h1 | h1
  · rw [hk] at h1; cases h1
  · exact h1 hk
theorem ClsI.row' {fr : Bool} {S : Nat → Prop} {W w w1 : World} {g n cap : Nat} {cps : List ClP} {ps0 : List P} (h : ClsI fr S W w (.slice (some ⟨g, 0, none⟩) n cap) cps ps0) {i : Nat} {c : ClP} (hi : cps[i]? = some c) {p : P} (hp : p ∈ ps0)
    {b : Option Addr} {m d : Nat} (ho : OwnG tP.e W w1 (.slice b m d) (c.ps ++ [p])) (hg : Grw w w1 c.h.y.ownBlock) (hl : Loc w c.h.y (.slice b m d)) :
    ClsI fr S W (w1.setCell ⟨g, i * 2 + 1, none⟩ (.slice b m d)) (.slice (some ⟨g, 0, none⟩) n cap) (cps.set i ⟨⟨c.h.a, c.h.n, c.h.c, b, m, d⟩, c.v, c.ps ++ [p]⟩) ps0 := by
  obtain ⟨hl', rfl⟩ := List.getElem?_eq_some_iff.1 hi
  exact h.row i hl' hp ho hg hl
/-- the data of a class with one row more -/
theorem data_known (f : R → List V) (cps : List ClP) (r : R) (hn : ((cps.map ClP.d).map Prod.fst).Nodup) {j : Nat} (h : ixC (cps.map ClP.d) (f r) = some j) {c c' : ClP} {p : P} (hc : cps[j]? = some c) (hv : c'.v = c.v) (hps : c'.ps = c.ps ++ [p]) (hp : p.r = r) :
    addC f (cps.map ClP.d) r = (cps.set j c').map ClP.d := by
  obtain ⟨hj, e⟩ := ixC_some h
  rw [addC_known f _ r hn j h hj, List.map_set]
  obtain ⟨hl, rfl⟩ := List.getElem?_eq_some_iff.1 hc
  rw [List.getElem_map] at e ⊢
  congr 1
  unfold ClP.d at *
  simp only at e ⊢
  rw [hv, hps, ← e, rows_app]
  subst hp; rfl
theorem data_fst {cps : List ClP} {j : Nat} {c c' : ClP} (hc : cps[j]? = some c) (hv : c'.v = c.v) : ((cps.set j c').map ClP.d).map Prod.fst = (cps.map ClP.d).map Prod.fst := by
  obtain ⟨hl, rfl⟩ := List.getElem?_eq_some_iff.1 hc
  rw [List.map_map, List.map_map]
  refine List.ext_getElem (by simp) fun i h1 h2 => ?_
  simp only [List.getElem_map, List.getElem_set, Function.comp]
  split
  · rename_i h; subst h; exact hv
  · rfl
theorem MapI.ne {M n : Nat} {f : List V → Option Int} {W w : World} {α : Type} [Enc α] {e : TypeId} {v : Value} {l : List α} (h : MapI M f n w) (ho : OwnG e W w v l) : some M ≠ v.ownBlock := fun he => by
  obtain ⟨es, cl, hb⟩ := h.block
  obtain ⟨_, c, hc⟩ := ho.blk M he.symm
  rw [hb] at hc; cases hc
theorem MapI.store {M n g o cn cap : Nat} {f : List V → Option Int} {W w w1 : World} {y u : Value} {yps : List P} {cps : List ClP} (h : MapI M f n w) (hy : OwnG tP.e W w y yps) (k : Grw w w1 y.ownBlock) (hc : OwnG tCl.e W w (.slice (some ⟨g, 0, none⟩) cn cap) cps) : MapI M f n (w1.setCell ⟨g, o, none⟩ u) :=
  (h.grw k (h.ne hy)).grw (set_grw _ _ _ _) (h.ne hc)
theorem VOk.map {fr : Bool} {S : Nat → Prop} {W w w' : World} {c : ClP} (h : VOk fr S W w c) {M : Nat} {es : Array MapEntry} {cl : Nat} (hM : w.heap[M]? = some (.map es cl)) (k : Grw w w' (some M)) (hW : W.heap.size ≤ M) : VOk fr S W w' c := by
  obtain ⟨v1, v2, v3, v4⟩ := h
  have hin : In (fun g => some g ≠ some M) c.h.x := fun g hg hl e => by
    injection e with e; subst e
    obtain ⟨cc, e', f, hcc⟩ := rd_cells v1.1 g hg hl
    rw [hM] at hcc; cases hcc
  have hoff : ∀ e, Off e W w c.h.x → Off e W w' c.h.x := fun e ho g hg hl => by
    rcases ho g hg hl with h | ⟨cur, e', fr, c1, c2⟩
    · exact .inl h
    · exact .inr ⟨cur, e', fr, by rw [k.block g (Array.getElem?_eq_some_iff.1 c1).1 (hin g hg hl)]; exact c1, c2⟩
  refine ⟨⟨v1.1.out k hin, v1.2⟩, hoff _ v2, hoff _ v3, fun f => (v4 f).other k (fun g hg => by injection hg with hg; omega) (.inr fun he => ?_)⟩
  obtain ⟨_, c', hc⟩ := (v4 f).blk M he
  rw [hM] at hc; cases hc
theorem rows_of (cps : List ClP) (f : R → List V) (l : List R) (h : cps.map ClP.d = clsF f l) (c : ClP) (hc : c ∈ cps) : c.ps.length ≤ l.length := by
  have hm : c.d ∈ clsF f l := by rw [← h]; exact List.mem_map_of_mem hc
  have hp := ((clsF_isC f l).cls c.d hm).length_eq
  have e : c.d.2.length = c.ps.length := rows_len _
  rw [← e, hp]
  exact List.length_filter_le _ _
end Go.Proofs.YtbplapkcleipiaaGreatDoor
/- Classes of rows by their values, of the program. -/
namespace Go.Proofs.YtbplapkcleipiaaGreatDoor
open Go.ChangeShapes Go.WideShapes Go.ChangeAt Go.RowKit

theorem ownv_prg (xa xb : Option Addr) (xn xc xm xd : Nat) (w : World) : Calls Tryz.prog 103 #[.agg #[.slice xa xn xc, .slice xb xm xd]] w fun e w' => e = .returned (.slice xa xn xc) ∧ Ext w w' := by
  go_enter Tryz.func103, Tryz.ntmps103
  go_wp2_with fail
  go_ret
  exact ⟨rfl, (Ext.refl _).alloc _ _⟩
/-- what classify hands back -/
def ClQ (fr : Bool) (S : Nat → Prop) (w : World) (cs : List Cl) (e : Ending) (w' : World) : Prop := ∃ v cps ps0, e = .returned v ∧ ClsI fr S w w' v cps ps0 ∧ (∀ p ∈ ps0, RdRow w p ∧ In S p.h.x ∧ In S p.h.y) ∧ cps.map ClP.d = cs
def ixF (cs : List Cl) (v : List V) : Option Int := (ixC cs v).map Int.ofNat
def CsR (fr : Bool) (S : Nat → Prop) (W : World) (M : Nat) (f : R → List V) (ps : List P) (vc i : Value) (wr : World) : Prop :=
  ∃ (k : Nat) (cps : List ClP), k ≤ ps.length ∧ i = .int .i64 k ∧ ClsI fr S W wr vc cps ps ∧ cps.map ClP.d = clsF f ((rows ps).take k) ∧ MapI M (ixF (cps.map ClP.d)) cps.length wr ∧ cps.length ≤ k
set_option maxHeartbeats 8000000 in
set_option maxRecDepth 100000 in
theorem cls_own (S : Nat → Prop) (l : List R) (vr : Value) (w : World) (hr : RdR S w vr l) (hG : PT w) (hk : ∀ r ∈ l, KeyOk r.v) (hll : l.length ≤ 1000000) :
    Calls Tryz.prog 102 #[vr, .func (.func 103) #[] #[]] w (ClQ false S w (clsF R.v l)) := by
  obtain ⟨ps, h1, h2, h3, rfl⟩ := hr
  obtain ⟨bd, bcap, rfl, b1, b2⟩ := h1.shape
  have HP := Lib.hid h1
  have HF := Lib.hid h3
  have HK := Lib.hid hk
  have HG := Lib.hid hG
  have HLL := Lib.hid hll
  clear h1 h2 h3 hk hG hll
  obtain ⟨t, ht⟩ : ∃ t, t = ps.length := ⟨_, rfl⟩
  have HT := Lib.hid ht
  rw [← ht] at HP b1 ⊢
  clear ht
  unfold maxLen at b2
  have HM0 := Lib.hid (MapI.made w)
  have hmm := @run_makeMap Tryz.prog
  go_enter Tryz.func102, Tryz.ntmps102
  go_wp2_with fail
  clear hmm
  go_loopw [5, 16] (CsR false S w w.heap.size R.v ps) (fun _ i _ => t - (intOf i).toNat)
  case atStart => exact ⟨0, [], Nat.zero_le _, rfl, ClsI.nil false S (ext_grownBy (Ext.refl _) (World.grownBy_alloc w _ none) (fun k hk => by cases hk)) ps, rfl, HM0.out, Nat.zero_le _⟩
  case round =>
    obtain ⟨k, cps, hk, rfl, hC, hD, hM, hcl⟩ := hrel
    have hkt : k ≤ t := by rw [HT.out]; exact hk
    have hEw := Lib.hid hC.own.2
    by_cases hlt : k < t
    · have hlt' : k < ps.length := by rw [← HT.out]; exact hlt
      have hlr : k < (rows ps).length := by rw [rows_len]; exact hlt'
      obtain ⟨g, o, rfl, d0', d1'⟩ := rd_P HP.out k hlt'
      have d0 := hEw.out.keeps d0'
      have d1 := hEw.out.keeps d1'
      clear d0' d1'
      have hst := clsF_step R.v (rows ps) k hlr
      rw [rows_at ps k hlt', ← hD] at hst
      have hmem := List.getElem_mem hlt'
      have hfi := HF.out ps[k] hmem
      have hok := HK.out ps[k].r (List.mem_map_of_mem hmem)
      have hnd := (clsF_isC R.v ((rows ps).take k)).nd
      rw [← hD] at hnd
      generalize ps[k] = y at *
      obtain ⟨⟨xa, xn, xc, xb, xm, xd⟩, xr⟩ := y
      simp only [Hd.x, Hd.y] at d0 d1 hst hok
      obtain ⟨w0, hw0⟩ : ∃ w0, w0 = wr.alloc (.cells #[.slice xa xn xc, .slice xb xm xd] 51) := ⟨_, rfl⟩
      have EX := Lib.hid (show Ext wr w0 by rw [hw0]; exact (Ext.refl wr).alloc _ _)
      have z0 : w0.cell? ⟨wr.heap.size, 0, none⟩ = some (.slice xa xn xc) := by rw [hw0]; exact al0 _ _ _ _
      have z1 : w0.cell? ⟨wr.heap.size, 1, none⟩ = some (.slice xb xm xd) := by rw [hw0]; exact al1 _ _ _ _
      have HOV := Lib.hid (fun w' => ownv_prg xa xb xn xc xm xd w')
      have HKC := Lib.hid (fun w' (hE : Ext w0 w') => key_call xr.v (.slice xa xn xc) w' (HG.out.ext (hEw.out.trans (EX.out.trans hE))) (hfi.1.1.ext (hEw.out.trans (EX.out.trans hE))) hok)
      have HW0 := Lib.hid hw0
      have HFI := Lib.hid hfi
      have HC := Lib.hid hC
      have HD := Lib.hid hD
      have HM := Lib.hid hM
      have HCL := Lib.hid hcl
      have HST := Lib.hid hst
      have HND := Lib.hid hnd
      have HL := Lib.hid hlt'
      have HMEM := Lib.hid hmem
      have HLK := Lib.hid (litK_of xr.v hok.2)
      have hcn : cps.length ≤ 1000000 := by have := HLL.out; rw [rows_len] at this; omega
      have HCN := Lib.hid hcn
      clear hfi hok hC hD hM hcl hst hnd hmem hw0 hcn
      cases hix : ixC (cps.map ClP.d) xr.v with
      | some j =>
        go_wp2_with fail
        rw [← HW0.out]
        refine (HOV.out _).mono ?_; rintro e w1 ⟨rfl, hE1⟩
        go_wp2_with fail
        refine (HKC.out _ hE1).mono ?_; rintro e w2 ⟨rfl, hE2⟩
        have HE02 := Lib.hid (hE1.trans hE2)
        have r0 := HE02.out.keeps z0
        have r1 := HE02.out.keeps z1
        obtain ⟨D, hDo, hDm, hDf⟩ := HM.out.ext (EX.out.trans HE02.out)
        have hv := (hDf xr.v).2 j (by unfold ixF; rw [hix]; rfl)
        have HV := Lib.hid hv
        have HDO := Lib.hid hDo
        clear hv hDo hDf hE1 hE2 z0 z1
        go_wp2_with (at_lookup; refine Go.wpList_lookup_own_ok_int _ rfl _ _ 157 rfl 9 3 .i64 map_law Tryz.underlying157 Tryz.underlying3 (map_zero _) w.heap.size cps.length D rfl HDO.out _ _ rfl HLK.out ?_; intro c hat hwc; obtain rfl : c = (j : Int) := (by have h := (HV.out.2 _).symm.trans hat; injection h with h; injection h with _ h; exact h.symm); rw [HV.out.1]; clear hat hwc)
        have hC2 := HC.out.ext (EX.out.trans HE02.out)
        obtain ⟨⟨⟨ya, yn, yc, yb, ym, yd⟩, yv, yps⟩, hcj, hjv⟩ := ixC_at hix
        obtain ⟨gc, ccap, rfl, hj, hnc, hcm, q0, q1, qf, qs, hri, hap⟩ := hC2.at hcj
        simp only [Hd.x, Hd.y] at hri hap q0 q1
        have HYL := Lib.hid (show yps.length ≤ 1000000 from Nat.le_trans (rows_of cps R.v _ HD.out ⟨⟨ya, yn, yc, yb, ym, yd⟩, yv, yps⟩ (List.mem_of_getElem? hcj)) (by rw [List.length_take]; have := HLL.out; omega))
        have HRI := Lib.hid hri
        have HAP := Lib.hid hap
        have HCJ := Lib.hid hcj
        have HJV := Lib.hid hjv
        have HC2 := Lib.hid hC2
        have HIX := Lib.hid hix
        obtain ⟨cn, hcn⟩ : ∃ cn, cn = cps.length := ⟨_, rfl⟩
        have HCN2 := Lib.hid hcn
        rw [← hcn] at hj hnc HCN HC2 ⊢
        unfold maxLen at hcm
        clear hri hC2 hcj hjv hap hcn hix
        have HM2 := Lib.hid (HM.out.ext (EX.out.trans HE02.out))
        go_wp2_with fail
        have LX := Lib.hid ((Ext.refl w2).alloc #[.slice xa xn xc, .slice xb xm xd] 51)
        go_region_law (refine step_appGL tP rfl _ _ rfl w (.slice yb ym yd) yps rfl ?a1 _ [⟨⟨xa, xn, xc, xb, xm, xd⟩, xr⟩] rfl ?a2 ?a3 ?_; (have z1 := HRI.out.ext LX.out; have z1' := z1.ext (Ext.refl _).drew; case a1 => first | exact z1 | exact z1'); (have z2 := rd_litG w2 [(⟨⟨xa, xn, xc, xb, xm, xd⟩, xr⟩ : P)] #[.slice xa xn xc, .slice xb xm xd] 51 _ 1 rfl rfl (by simp) rfl; case a2 => exact z2); (case a3 => have := HYL.out; simp; omega); intro v5 w5 hO5 hg5 hl5; obtain ⟨v5a, v5n, v5c, hv5⟩ : ∃ v5a v5n v5c, v5 = .slice v5a v5n v5c := (by obtain ⟨a, b, e, _⟩ := hO5.rd.shape; exact ⟨a, _, b, e⟩); subst hv5; have p1 := grow_cell hg5 (LX.out.keeps q1) HAP.out; have pf := grow_frozen hg5 (Nat.lt_of_lt_of_le qs LX.out.2.2) ((LX.out.2.1 _ qs).trans qf) HAP.out; have ps1 := Nat.lt_of_lt_of_le (Nat.lt_of_lt_of_le qs LX.out.2.2) hg5.size)
        all_goals
          have hgr : Grw (w2.alloc (.cells #[.slice xa xn xc, .slice xb xm xd] 51)) w5 (Value.slice yb ym yd).ownBlock := ⟨hg5.os, hg5.output, hg5.size, hg5.block⟩
          have hll : Loc (w2.alloc (.cells #[.slice xa xn xc, .slice xb xm xd] 51)) (.slice yb ym yd) (.slice v5a v5n v5c) := hl5
          have HNEW := Lib.hid ((HC2.out.ext LX.out).row' HCJ.out HMEM.out hO5 hgr hll)
          have HMN := Lib.hid ((HM2.out.ext LX.out).store (o := j * 2 + 1) (u := .slice v5a v5n v5c) (HRI.out.ext LX.out) hgr (HC2.out.ext LX.out).own)
          clear hgr hll hO5 hg5 hl5 p1
          go_wp2_with fail
          go_roundw
          case rel =>
            refine ⟨k + 1, cps.set j ⟨⟨ya, yn, yc, v5a, v5n, v5c⟩, yv, yps ++ [⟨⟨xa, xn, xc, xb, xm, xd⟩, xr⟩]⟩, HL.out, by go_num, HNEW.out, ?_, ?_, ?_⟩
            · rw [HST.out]
              exact (data_known R.v cps xr HND.out (HIX.out) (c := ⟨⟨ya, yn, yc, yb, ym, yd⟩, yv, yps⟩) (c' := ⟨⟨ya, yn, yc, v5a, v5n, v5c⟩, yv, yps ++ [⟨⟨xa, xn, xc, xb, xm, xd⟩, xr⟩]⟩) (p := ⟨⟨xa, xn, xc, xb, xm, xd⟩, xr⟩) HCJ.out rfl rfl rfl).symm
            · have hf : ixF ((cps.set j ⟨⟨ya, yn, yc, v5a, v5n, v5c⟩, yv, yps ++ [⟨⟨xa, xn, xc, xb, xm, xd⟩, xr⟩]⟩).map ClP.d) = ixF (cps.map ClP.d) := by
                funext u; unfold ixF; rw [ixC_keys (data_fst (c' := ⟨⟨ya, yn, yc, v5a, v5n, v5c⟩, yv, yps ++ [(⟨⟨xa, xn, xc, xb, xm, xd⟩, xr⟩ : P)]⟩) HCJ.out rfl) u]
              rw [hf, List.length_set]
              exact HMN.out
            · rw [List.length_set]; exact Nat.le_trans HCL.out (Nat.le_succ _)
          case measure => simp [intOf]; omega
      | none =>
        go_wp2_with fail
        rw [← HW0.out]
        refine (HOV.out _).mono ?_; rintro e w1 ⟨rfl, hE1⟩
        go_wp2_with fail
        refine (HKC.out _ hE1).mono ?_; rintro e w2 ⟨rfl, hE2⟩
        have HE02 := Lib.hid (hE1.trans hE2)
        have r0 := HE02.out.keeps z0
        have r1 := HE02.out.keeps z1
        have HE2w := Lib.hid (EX.out.trans HE02.out)
        obtain ⟨D, hDo, hDm, hDf⟩ := HM.out.ext HE2w.out
        have hv := (hDf xr.v).1 (by unfold ixF; rw [hix]; rfl)
        have HV := Lib.hid hv
        have HDO := Lib.hid hDo
        have HDM := Lib.hid hDm
        have HDF := Lib.hid hDf
        have HC2 := Lib.hid (HC.out.ext HE2w.out)
        obtain ⟨va, vcap, hvc, _, _⟩ := HC2.out.own.rd.shape
        subst hvc
        have HIX := Lib.hid hix
        have HML := Lib.hid (show w.heap.size < wr.heap.size from by obtain ⟨es, cl, hb⟩ := HM.out.block; exact (Array.getElem?_eq_some_iff.1 hb).1)
        have HMB := Lib.hid ((HM.out.ext HE2w.out).block)
        have rs := World.block_lt_of_cell? _ _ r0
        clear hv hDo hDf hDm hE1 hE2 z0 z1 hix
        obtain ⟨cn, hcn⟩ : ∃ cn, cn = cps.length := ⟨_, rfl⟩
        have HCN2 := Lib.hid hcn
        rw [← hcn] at HCN HDO HC2 HC ⊢
        clear hcn
        have HVB := Lib.hid (fun kk hh => HC.out.own.lt kk hh)
        have HCJ := Lib.hid (show (cps ++ [(⟨⟨xa, xn, xc, none, 0, 0⟩, xr.v, []⟩ : ClP)])[cn]? = some (⟨⟨xa, xn, xc, none, 0, 0⟩, xr.v, []⟩ : ClP) by rw [HCN2.out]; simp)
        obtain ⟨c1, hc1⟩ : ∃ c1, c1 = cn + 1 := ⟨_, rfl⟩
        have HC1 := Lib.hid hc1
        have HLN1 := Lib.hid (show (cps ++ [(⟨⟨xa, xn, xc, none, 0, 0⟩, xr.v, []⟩ : ClP)]).length = c1 by rw [hc1, List.length_append, HCN2.out]; rfl)
        clear hc1
        have HYL := Lib.hid (show ([] : List P).length ≤ 1000000 by simp)
        have HVOK := Lib.hid (fun (W3 : World) (hE : Ext w W3) => (show VOk false S w W3 (⟨⟨xa, xn, xc, none, 0, 0⟩, xr.v, []⟩ : ClP) from ⟨⟨HFI.out.1.1.ext hE, HFI.out.2.1⟩, off_old HFI.out.1.1, off_old HFI.out.1.1, fun h => by cases h⟩))
        have HMP := Lib.hid (fun w3 hown => MapI.put (M := w.heap.size) (n := cn + 1) (w' := w3) xr.v (cn : Int) HDM.out HDF.out hown)
        go_wp2_with (first
          | (at_lookup; refine Go.wpList_lookup_own_ok_int _ rfl _ _ 157 rfl 9 3 .i64 map_law Tryz.underlying157 Tryz.underlying3 (map_zero _) w.heap.size cn D rfl HDO.out _ _ rfl HLK.out ?_; intro c hat hwc; rw [HV.out]; clear hat hwc)
          | (at_mapUpdate; refine wpList_mapUpdate_own _ rfl _ _ _ 157 rfl 9 3 map_law Tryz.underlying157 _ w.heap.size cn D rfl HDO.out (by have := HCN.out; unfold maxLen; omega) _ (.int .i64 (cn : Int)) (litK xr.v) rfl rfl HLK.out (.lit (.int .i64 (cn : Int))) [] (plainElem_int Tryz.underlying3 (by have := HCN.out; exact WalkArith.wf_i64 (by omega))) ?_; intro w3 hown3 hg3; have HO3 := Lib.hid hown3; have HG3 := Lib.hid hg3; have g0 := grow_cell hg3 r0 (fun kk hh => by injection hh with hh; have := HML.out; omega); have g1 := grow_cell hg3 r1 (fun kk hh => by injection hh with hh; have := HML.out; omega); have HC3 := Lib.hid (by obtain ⟨es, cl, hb⟩ := HMB.out; exact HC2.out.map hb (grw_by hg3) (Nat.le_refl _)); clear hown3 hg3)
          | (at_builtin; refine appGL tCl rfl _ _ rfl w _ cps rfl (HC3.out.own.ext ((Ext.refl w3).alloc #[.slice xa xn xc, .slice none 0 0] 163)) _ [(⟨⟨xa, xn, xc, none, 0, 0⟩, xr.v, []⟩ : ClP)] rfl (rd_litG w3 [(⟨⟨xa, xn, xc, none, 0, 0⟩, xr.v, []⟩ : ClP)] #[.slice xa xn xc, .slice none 0 0] 163 _ 1 rfl rfl (by simp) rfl) (by have := HCN.out; have := HCN2.out; simp; omega) ?_; intro v4 w4 hO4 hg4 hl4; have h0 := grow_cell hg4 (((Ext.refl w3).alloc #[.slice xa xn xc, .slice none 0 0] 163).keeps g0) (fun kk hh => by have := HVB.out kk hh; omega); have h1 := grow_cell hg4 (((Ext.refl w3).alloc #[.slice xa xn xc, .slice none 0 0] 163).keeps g1) (fun kk hh => by have := HVB.out kk hh; omega); have hs4 := World.block_lt_of_cell? _ _ h0; have hC4 := (HC3.out.ext ((Ext.refl w3).alloc #[.slice xa xn xc, .slice none 0 0] 163)).new (HVOK.out _ (HC3.out.own.2.trans ((Ext.refl w3).alloc #[.slice xa xn xc, .slice none 0 0] 163))) rfl rfl (fun h => by cases h) hO4 hg4; obtain ⟨gc, ccap, hv4, hj, hnc, hcm, q0, q1, qf, qs, hri, hap⟩ := hC4.at HCJ.out; rw [HLN1.out] at hv4 hj hnc; subst hv4; have HC2' := Lib.hid hC4; have HRI := Lib.hid hri; have HAP := Lib.hid hap; have HM2 := Lib.hid ((HMP.out w3 HO3.out).ext ((Ext.refl w3).alloc #[.slice xa xn xc, .slice none 0 0] 163) |>.grw (grw_by hg4) ((HMP.out w3 HO3.out).ext ((Ext.refl w3).alloc #[.slice xa xn xc, .slice none 0 0] 163) |>.ne (HC3.out.own.ext ((Ext.refl w3).alloc #[.slice xa xn xc, .slice none 0 0] 163)))); unfold maxLen at hcm; clear hC4 hri hap hO4 hg4 hl4 g0 g1))
        have HC2 := HC2'
        have LX := Lib.hid ((Ext.refl w4).alloc #[.slice xa xn xc, .slice xb xm xd] 51)
        go_region_law (refine step_appGL tP rfl _ _ rfl w (.slice none 0 0) [] rfl ?a1 _ [⟨⟨xa, xn, xc, xb, xm, xd⟩, xr⟩] rfl ?a2 ?a3 ?_; (have z1 := HRI.out.ext LX.out; have z1' := z1.ext (Ext.refl _).drew; case a1 => first | exact z1 | exact z1'); (have z2 := rd_litG w4 [(⟨⟨xa, xn, xc, xb, xm, xd⟩, xr⟩ : P)] #[.slice xa xn xc, .slice xb xm xd] 51 _ 1 rfl rfl (by simp) rfl; case a2 => exact z2); (case a3 => simp); intro v5 w5 hO5 hg5 hl5; obtain ⟨v5a, v5n, v5c, hv5⟩ : ∃ v5a v5n v5c, v5 = .slice v5a v5n v5c := (by obtain ⟨a, b, e, _⟩ := hO5.rd.shape; exact ⟨a, _, b, e⟩); subst hv5; have p1 := grow_cell hg5 (LX.out.keeps q1) HAP.out; have pf := grow_frozen hg5 (Nat.lt_of_lt_of_le qs LX.out.2.2) ((LX.out.2.1 _ qs).trans qf) HAP.out; have ps1 := Nat.lt_of_lt_of_le (Nat.lt_of_lt_of_le qs LX.out.2.2) hg5.size)
        all_goals
          have hgr : Grw (w4.alloc (.cells #[.slice xa xn xc, .slice xb xm xd] 51)) w5 (Value.slice none 0 0).ownBlock := ⟨hg5.os, hg5.output, hg5.size, hg5.block⟩
          have hll : Loc (w4.alloc (.cells #[.slice xa xn xc, .slice xb xm xd] 51)) (.slice none 0 0) (.slice v5a v5n v5c) := hl5
          have HNEW := Lib.hid ((HC2.out.ext LX.out).row' HCJ.out HMEM.out hO5 hgr hll)
          have HMN := Lib.hid ((HM2.out.ext LX.out).store (o := cn * 2 + 1) (u := .slice v5a v5n v5c) (HRI.out.ext LX.out) hgr (HC2.out.ext LX.out).own)
          clear hgr hll hO5 hg5 hl5 p1
          go_wp2_with fail
          go_roundw
          case rel =>
            refine ⟨k + 1, (cps ++ [(⟨⟨xa, xn, xc, none, 0, 0⟩, xr.v, []⟩ : ClP)]).set cn ⟨⟨xa, xn, xc, v5a, v5n, v5c⟩, xr.v, [] ++ [(⟨⟨xa, xn, xc, xb, xm, xd⟩, xr⟩ : P)]⟩, HL.out, by go_num, HNEW.out, ?_, ?_, ?_⟩
            · rw [HST.out, addC_new R.v _ xr HIX.out, HCN2.out]
              simp [ClP.d, rows]
            · have hf : ixF (((cps ++ [(⟨⟨xa, xn, xc, none, 0, 0⟩, xr.v, []⟩ : ClP)]).set cn ⟨⟨xa, xn, xc, v5a, v5n, v5c⟩, xr.v, [] ++ [(⟨⟨xa, xn, xc, xb, xm, xd⟩, xr⟩ : P)]⟩).map ClP.d) = fun u => if u = xr.v then some (cn : Int) else ixF (cps.map ClP.d) u := by
                funext u
                unfold ixF
                rw [ixC_keys (data_fst (c' := ⟨⟨xa, xn, xc, v5a, v5n, v5c⟩, xr.v, [] ++ [(⟨⟨xa, xn, xc, xb, xm, xd⟩, xr⟩ : P)]⟩) HCJ.out rfl) u, List.map_append, List.map_cons, List.map_nil, ixC_snoc _ _ _ HIX.out, List.length_map, ← HCN2.out]
                by_cases h : u = xr.v
                · subst h; simp [ClP.d]
                · rw [if_neg h, if_neg (by simpa [ClP.d] using h)]
              rw [hf, List.length_set, HLN1.out, HC1.out]
              exact HMN.out
            · rw [List.length_set, HLN1.out, HC1.out, HCN2.out]; have := HCL.out; omega
          case measure => simp [intOf]; omega
    · have hke : (rows ps).take k = rows ps := List.take_of_length_le (by rw [rows_len]; have := HT.out; omega)
      rw [hke] at hD
      have HC := Lib.hid hC
      have HD := Lib.hid hD
      clear hke hC hD hM
      go_wp2_with fail
      go_ret
      exact ⟨_, cps, ps, rfl, HC.out, HF.out, HD.out⟩
end Go.Proofs.YtbplapkcleipiaaGreatDoor
