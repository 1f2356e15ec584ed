/- One more row in its class. -/
import Derived.Test.YtfojeajmonnifaaGreatDoorZz27
namespace Go.Proofs.YtfojeajmonnifaaGreatDoor
open Go.ChangeShapes Go.WideShapes Go.ChangeAt Go.RowKit

/-- where the class of these values stands -/
def ixC (cs : List Cl) (v : List V) : Option Nat := cs.findIdx? fun c => decide (c.1 = v)
theorem ixC_some {cs : List Cl} {v : List V} {j : Nat} (h : ixC cs v = some j) : ∃ hj : j < cs.length, cs[j].1 = v := by
  unfold ixC at h
  obtain ⟨hj, h1, _⟩ := List.findIdx?_eq_some_iff_getElem.1 h
  exact ⟨hj, by simpa using h1⟩
theorem ixC_none {cs : List Cl} {v : List V} (h : ixC cs v = none) : ∀ c ∈ cs, c.1 ≠ v := by
  unfold ixC at h
  intro c hc e
  have := List.findIdx?_eq_none_iff.1 h c hc
  simp [e] at this
theorem ixC_snoc (cs : List Cl) (c : Cl) (v : List V) (h : ixC cs c.1 = none) : ixC (cs ++ [c]) v = if v = c.1 then some cs.length else ixC cs v := by
  unfold ixC at *
  rw [List.findIdx?_append]
  by_cases hv : v = c.1
  · subst hv; rw [h, if_pos rfl]; simp
  · rw [if_neg hv]
    have : ([c].findIdx? fun c => decide (c.1 = v)) = none := by simp [List.findIdx?_cons, Ne.symm hv]
    rw [this]; simp
theorem ixC_keys {cs cs' : List Cl} (h : cs.map Prod.fst = cs'.map Prod.fst) (v : List V) : ixC cs v = ixC cs' v := by
  have key : ∀ l : List Cl, ixC l v = (l.map Prod.fst).findIdx? (fun u => decide (u = v)) := fun l => by
    unfold ixC; rw [List.findIdx?_map]; rfl
  rw [key, key, h]
theorem addC_new (f : R → List V) (cs : List Cl) (r : R) (h : ixC cs (f r) = none) : addC f cs r = cs ++ [(f r, [r])] := by
  unfold addC
  rw [if_neg]
  intro e
  obtain ⟨c, hc, e⟩ := List.any_eq_true.1 e
  exact ixC_none h c hc (by simpa using e)
theorem addC_known (f : R → List V) (cs : List Cl) (r : R) (hn : (cs.map Prod.fst).Nodup) (j : Nat) (h : ixC cs (f r) = some j) (hj : j < cs.length) : addC f cs r = cs.set j (f r, cs[j].2 ++ [r]) := by
  obtain ⟨_, e⟩ := ixC_some h
  unfold addC
  rw [if_pos (List.any_eq_true.2 ⟨cs[j], List.getElem_mem _, by simpa using e⟩)]
  refine List.ext_getElem (by simp) fun i h1 h2 => ?_
  rw [List.getElem_map, List.getElem_set]
  by_cases hij : j = i
  · subst hij; rw [if_pos e, if_pos rfl, e]
  · rw [if_neg hij, if_neg]
    intro e2
    have hi : i < cs.length := by simpa using h1
    have hp := List.pairwise_iff_getElem.1 hn
    rcases Nat.lt_or_gt_of_ne hij with hlt | hlt
    · exact hp j i (by simpa using hj) (by simpa using hi) hlt (by simp [e, e2])
    · exact hp i j (by simpa using hi) (by simpa using hj) hlt (by simp [e, e2])
theorem clsF_step (f : R → List V) (l : List R) (k : Nat) (h : k < l.length) : clsF f (l.take (k + 1)) = addC f (clsF f (l.take k)) l[k] := by
  unfold clsF
  rw [List.take_succ_eq_append_getElem h, List.foldl_append]; rfl
/- memory -/
theorem cells_set1 (l : List ClP) (i : Nat) (hi : i < l.length) (c' : ClP) (hx : c'.h.x = l[i].h.x) : (cellsG l).set (i * 2 + 1) c'.h.y = cellsG (l.set i c') := by
  have h := cellsG_set l i c' hi
  have e : setL (cellsG l) (i * Enc.sz ClP) (Enc.cells c') = ((cellsG l).set (i * 2) c'.h.x).set (i * 2 + 1) c'.h.y := rfl
  rw [e] at h
  rw [← h]
  congr 1
  have h0 := cellsG_at l i 0 hi (by decide)
  have h1 : (cellsG l)[i * 2]? = some l[i].h.x := h0
  obtain ⟨h2, h3⟩ := List.getElem?_eq_some_iff.1 h1
  refine List.ext_getElem (by simp) fun j j1 j2 => ?_
  rw [List.getElem_set]
  by_cases hij : i * 2 = j
  · subst hij; rw [if_pos rfl, hx]; exact h3
  · rw [if_neg hij]
theorem pair_set {α : Type} {Rl : α → α → Prop} {l : List α} (h : l.Pairwise Rl) (i : Nat) (c : α) (h1 : ∀ j (hj : j < l.length), j ≠ i → Rl l[j] c ∧ Rl c l[j]) : (l.set i c).Pairwise Rl := by
  rw [List.pairwise_iff_getElem] at h ⊢
  intro a b ha hb hab
  have ha' : a < l.length := by simpa using ha
  have hb' : b < l.length := by simpa using hb
  rw [List.getElem_set, List.getElem_set]
  by_cases hia : i = a
  · rw [if_pos hia, if_neg (by omega)]; exact (h1 b hb' (by omega)).2
  · rw [if_neg hia]
    by_cases hib : i = b
    · rw [if_pos hib]; exact (h1 a ha' (by omega)).1
    · rw [if_neg hib]; exact h a b ha' hb' hab
theorem dis_at {fr : Bool} {S : Nat → Prop} {W w : World} {vc : Value} {cps : List ClP} {ps0 : List P} (h : ClsI fr S W w vc cps ps0) (i j : Nat) (hi : i < cps.length) (hj : j < cps.length) (hij : i ≠ j) :
    Dis cps[i].h.y cps[j].h.y ∧ (fr = true → Dis cps[i].h.x cps[j].h.x) := by
  have hp := List.pairwise_iff_getElem.1 h.dis
  rcases Nat.lt_or_gt_of_ne hij with hlt | hlt
  · exact hp i j hi hj hlt
  · obtain ⟨a, b⟩ := hp j i hj hi hlt
    exact ⟨a.symm, fun f => (b f).symm⟩
/-- the row is put behind the rows of class i, and the class told -/
theorem ClsI.row {fr : Bool} {S : Nat → Prop} {W w w1 : World} {g n cap : Nat} {cps : List ClP} {ps0 : List P} (h : ClsI fr S W w (.slice (some ⟨g, 0, none⟩) n cap) cps ps0) (i : Nat) (hi : i < cps.length) {p : P} (hp : p ∈ ps0)
    {b : Option Addr} {m d : Nat} (ho : OwnG tP.e W w1 (.slice b m d) (cps[i].ps ++ [p])) (hg : Grw w w1 cps[i].h.y.ownBlock) (hl : Loc w cps[i].h.y (.slice b m d)) :
    ClsI fr S W (w1.setCell ⟨g, i * 2 + 1, none⟩ (.slice b m d)) (.slice (some ⟨g, 0, none⟩) n cap) (cps.set i ⟨⟨cps[i].h.a, cps[i].h.n, cps[i].h.c, b, m, d⟩, cps[i].v, cps[i].ps ++ [p]⟩) ps0 := by
  have hri := (h.rws cps[i] (List.getElem_mem _)).1
  have hb1 : ∀ q, cps[i].h.y.ownBlock = some q → W.heap.size ≤ q := fun q hq => (hri.blk q hq).1
  -- behind the append
  have own1 : OwnG tCl.e W w1 (.slice (some ⟨g, 0, none⟩) n cap) cps := h.own.other hg hb1 (h.own.apart hri (by decide))
  have rws1 : ∀ j (hj : j < cps.length), j ≠ i → OwnG tP.e W w1 cps[j].h.y cps[j].ps := fun j hj hji => by
    refine (h.rws cps[j] (List.getElem_mem _)).1.other hg hb1 ?_
    cases e : cps[j].h.y.ownBlock with
    | none => exact .inl rfl
    | some q => exact .inr fun e2 => (dis_at h j i hj hi hji).1 q e e2.symm
  have val1 : ∀ c ∈ cps, VOk fr S W w1 c := fun c hc => by
    obtain ⟨v1, v2, v3, v4⟩ := h.val c hc
    exact ⟨⟨v1.1.grw v2 hg hri.blk, v1.2⟩, v2.grw hg hri.blk, off_other v3 v2 hg hri.blk, fun f => (v4 f).other hg hb1 ((v4 f).apart hri (by decide))⟩
  -- behind the store
  have k2 := set_grw w1 g (i * 2 + 1) (.slice b m d)
  have hgW : W.heap.size ≤ g := (own1.blk g rfl).1
  have hb2 : ∀ q, some g = some q → W.heap.size ≤ q := fun q hq => by injection hq with hq; omega
  have hbk : RowBlk tCl.e W w1 (some g) := own1.blk
  have val2 : ∀ c ∈ cps, VOk fr S W (w1.setCell ⟨g, i * 2 + 1, none⟩ (.slice b m d)) c := fun c hc => by
    obtain ⟨v1, v2, v3, v4⟩ := val1 c hc
    exact ⟨⟨v1.1.grw v3 k2 hbk, v1.2⟩, off_other v2 v3 k2 hbk, v3.grw k2 hbk, fun f => (v4 f).other k2 hb2 ((v4 f).apart own1 (by decide))⟩
  have hn : n = cps.length := by
    rcases own1.1.2 with ⟨e, _⟩ | ⟨g', c', cur, e, _⟩
    · cases e
    · injection e
  subst hn
  obtain ⟨s1, s2⟩ := own1.1.stored (i * 2 + 1) (.slice b m d)
  have hset := cells_set1 cps i hi ⟨⟨cps[i].h.a, cps[i].h.n, cps[i].h.c, b, m, d⟩, cps[i].v, cps[i].ps ++ [p]⟩ rfl
  refine ⟨own1.grow s2 (by rw [← hset, List.length_set]; exact s1), fun c hc => ?_, fun c hc => ?_, ?_⟩
  · obtain ⟨j, hj, rfl⟩ := List.mem_iff_getElem.1 hc
    have hj' : j < cps.length := by simpa using hj
    rw [List.getElem_set]
    by_cases hij : i = j
    · rw [if_pos hij]
      refine ⟨ho.other k2 hb2 (ho.apart own1 (by decide)), fun q hq => ?_⟩
      rcases List.mem_append.1 hq with hq | hq
      · exact (h.rws cps[i] (List.getElem_mem _)).2 q hq
      · simp only [List.mem_singleton] at hq; subst hq; exact hp
    · rw [if_neg hij]
      exact ⟨(rws1 j hj' (Ne.symm hij)).other k2 hb2 ((rws1 j hj' (Ne.symm hij)).apart own1 (by decide)), (h.rws cps[j] (List.getElem_mem _)).2⟩
  · obtain ⟨j, hj, rfl⟩ := List.mem_iff_getElem.1 hc
    rw [List.getElem_set]
    by_cases hij : i = j
    · rw [if_pos hij]; exact val2 cps[i] (List.getElem_mem _)
    · rw [if_neg hij]; exact val2 _ (List.getElem_mem _)
  · refine pair_set h.dis i _ fun j hj hji => ?_
    have hd := dis_at h j i hj hi hji
    have hy : Dis (.slice b m d) cps[j].h.y := fun q hq e => by
      rcases hl with hl | ⟨q', hq', hle⟩
      · rw [hl] at hq; exact hd.1 q e hq
      · rw [hq'] at hq; injection hq with hq; subst hq
        have := (h.rws cps[j] (List.getElem_mem _)).1.lt q' e
        omega
    exact ⟨⟨hy.symm, hd.2⟩, hy, fun f => (hd.2 f).symm⟩
theorem ixC_at {cps : List ClP} {v : List V} {j : Nat} (h : ixC (cps.map ClP.d) v = some j) : ∃ c, cps[j]? = some c ∧ c.v = v := by
  obtain ⟨hj, e⟩ := ixC_some h
  have hj' : j < cps.length := by simpa using hj
  rw [List.getElem_map] at e
  exact ⟨cps[j], List.getElem?_eq_getElem hj', e⟩
/-- what the walk reads of class j -/
theorem ClsI.at {fr : Bool} {S : Nat → Prop} {W w : World} {vc : Value} {cps : List ClP} {ps0 : List P} (h : ClsI fr S W w vc cps ps0) {j : Nat} {c : ClP} (hj : cps[j]? = some c) :
    ∃ g cap, vc = .slice (some ⟨g, 0, none⟩) cps.length cap ∧ j < cps.length ∧ cps.length ≤ cap ∧ cap ≤ maxLen ∧ w.cell? ⟨g, j * 2, none⟩ = some c.h.x ∧ w.cell? ⟨g, j * 2 + 1, none⟩ = some c.h.y ∧ w.frozen? ⟨g, j * 2 + 1, none⟩ = false ∧ g < w.heap.size ∧ OwnG tP.e W w c.h.y c.ps ∧
      ∀ kk, c.h.y.ownBlock = some kk → kk ≠ g := by
  obtain ⟨hl, rfl⟩ := List.getElem?_eq_some_iff.1 hj
  rcases h.own.1.2 with ⟨rfl, h0⟩ | ⟨g, cap, cur, rfl, hb, hg, hnc, hcm, hcs, htk⟩
  · exact absurd h0 (by omega)
  obtain ⟨g', o', e', hc⟩ := h.own.rd.at j hl
  simp only [Option.some.injEq, Addr.mk.injEq, and_true] at e'
  obtain ⟨rfl, rfl⟩ := e'
  have q0 := hc 0 _ rfl
  have q1 := hc 1 _ rfl
  simp only [Enc.sz, Nat.zero_add, Nat.add_zero] at q0 q1
  have hri := (h.rws cps[j] (List.getElem_mem _)).1
  refine ⟨g, cap, rfl, hl, hnc, hcm, q0, q1, h.own.1.frozenAt _, (Array.getElem?_eq_some_iff.1 hg).1, hri, fun kk hk e => ?_⟩
  subst e
  rcases hri.apart h.own (by decide) with h1 | h1
  · rw [hk] at h1; cases h1
  · exact h1 hk
theorem ClsI.row' {fr : Bool} {S : Nat → Prop} {W w w1 : World} {g n cap : Nat} {cps : List ClP} {ps0 : List P} (h : ClsI fr S W w (.slice (some ⟨g, 0, none⟩) n cap) cps ps0) {i : Nat} {c : ClP} (hi : cps[i]? = some c) {p : P} (hp : p ∈ ps0)
    {b : Option Addr} {m d : Nat} (ho : OwnG tP.e W w1 (.slice b m d) (c.ps ++ [p])) (hg : Grw w w1 c.h.y.ownBlock) (hl : Loc w c.h.y (.slice b m d)) :
    ClsI fr S W (w1.setCell ⟨g, i * 2 + 1, none⟩ (.slice b m d)) (.slice (some ⟨g, 0, none⟩) n cap) (cps.set i ⟨⟨c.h.a, c.h.n, c.h.c, b, m, d⟩, c.v, c.ps ++ [p]⟩) ps0 := by
  obtain ⟨hl', rfl⟩ := List.getElem?_eq_some_iff.1 hi
  exact h.row i hl' hp ho hg hl
/-- the data of a class with one row more -/
theorem data_known (f : R → List V) (cps : List ClP) (r : R) (hn : ((cps.map ClP.d).map Prod.fst).Nodup) {j : Nat} (h : ixC (cps.map ClP.d) (f r) = some j) {c c' : ClP} {p : P} (hc : cps[j]? = some c) (hv : c'.v = c.v) (hps : c'.ps = c.ps ++ [p]) (hp : p.r = r) :
    addC f (cps.map ClP.d) r = (cps.set j c').map ClP.d := by
  obtain ⟨hj, e⟩ := ixC_some h
  rw [addC_known f _ r hn j h hj, List.map_set]
  obtain ⟨hl, rfl⟩ := List.getElem?_eq_some_iff.1 hc
  rw [List.getElem_map] at e ⊢
  congr 1
  unfold ClP.d at *
  simp only at e ⊢
  rw [hv, hps, ← e, rows_app]
  subst hp; rfl
theorem data_fst {cps : List ClP} {j : Nat} {c c' : ClP} (hc : cps[j]? = some c) (hv : c'.v = c.v) : ((cps.set j c').map ClP.d).map Prod.fst = (cps.map ClP.d).map Prod.fst := by
  obtain ⟨hl, rfl⟩ := List.getElem?_eq_some_iff.1 hc
  rw [List.map_map, List.map_map]
  refine List.ext_getElem (by simp) fun i h1 h2 => ?_
  simp only [List.getElem_map, List.getElem_set, Function.comp]
  split
  · rename_i h; subst h; exact hv
  · rfl
theorem MapI.ne {M n : Nat} {f : List V → Option Int} {W w : World} {α : Type} [Enc α] {e : TypeId} {v : Value} {l : List α} (h : MapI M f n w) (ho : OwnG e W w v l) : some M ≠ v.ownBlock := fun he => by
  obtain ⟨es, cl, hb⟩ := h.block
  obtain ⟨_, c, hc⟩ := ho.blk M he.symm
  rw [hb] at hc; cases hc
theorem MapI.store {M n g o cn cap : Nat} {f : List V → Option Int} {W w w1 : World} {y u : Value} {yps : List P} {cps : List ClP} (h : MapI M f n w) (hy : OwnG tP.e W w y yps) (k : Grw w w1 y.ownBlock) (hc : OwnG tCl.e W w (.slice (some ⟨g, 0, none⟩) cn cap) cps) : MapI M f n (w1.setCell ⟨g, o, none⟩ u) :=
  (h.grw k (h.ne hy)).grw (set_grw _ _ _ _) (h.ne hc)
theorem VOk.map {fr : Bool} {S : Nat → Prop} {W w w' : World} {c : ClP} (h : VOk fr S W w c) {M : Nat} {es : Array MapEntry} {cl : Nat} (hM : w.heap[M]? = some (.map es cl)) (k : Grw w w' (some M)) (hW : W.heap.size ≤ M) : VOk fr S W w' c := by
  obtain ⟨v1, v2, v3, v4⟩ := h
  have hin : In (fun g => some g ≠ some M) c.h.x := fun g hg hl e => by
    injection e with e; subst e
    obtain ⟨cc, e', f, hcc⟩ := rd_cells v1.1 g hg hl
    rw [hM] at hcc; cases hcc
  have hoff : ∀ e, Off e W w c.h.x → Off e W w' c.h.x := fun e ho g hg hl => by
    rcases ho g hg hl with h | ⟨cur, e', fr, c1, c2⟩
    · exact .inl h
    · exact .inr ⟨cur, e', fr, by rw [k.block g (Array.getElem?_eq_some_iff.1 c1).1 (hin g hg hl)]; exact c1, c2⟩
  refine ⟨⟨v1.1.out k hin, v1.2⟩, hoff _ v2, hoff _ v3, fun f => (v4 f).other k (fun g hg => by injection hg with hg; omega) (.inr fun he => ?_)⟩
  obtain ⟨_, c', hc⟩ := (v4 f).blk M he
  rw [hM] at hc; cases hc
theorem rows_of (cps : List ClP) (f : R → List V) (l : List R) (h : cps.map ClP.d = clsF f l) (c : ClP) (hc : c ∈ cps) : c.ps.length ≤ l.length := by
  have hm : c.d ∈ clsF f l := by rw [← h]; exact List.mem_map_of_mem hc
  have hp := ((clsF_isC f l).cls c.d hm).length_eq
  have e : c.d.2.length = c.ps.length := rows_len _
  rw [← e, hp]
  exact List.length_filter_le _ _
end Go.Proofs.YtfojeajmonnifaaGreatDoor
