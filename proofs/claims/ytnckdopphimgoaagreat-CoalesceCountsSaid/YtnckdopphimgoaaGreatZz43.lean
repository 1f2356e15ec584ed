/- The program's inOrder: a clone, sorted by the library's contract. -/
import Derived.Shelf.SlSortCmp.NoneTotal
import Derived.Test.YtnckdopphimgoaaGreatZz08
import Derived.Test.YtnckdopphimgoaaGreatZz29
import Derived.Test.YtnckdopphimgoaaGreatZz42
namespace Go.Proofs.YtnckdopphimgoaaGreat
open Go.ChangeShapes Go.WideShapes Go.ChangeAt Go.RowKit Go.Shelf Go.Lib Go.Sort

/-- rows that can be read in a world -/
abbrev Sb (W : World) := { p : P // RdRow W p }
instance (W : World) : Inhabited (Sb W) := ⟨⟨default, ⟨rdG_nil _, rdG_nil _⟩⟩⟩
def encS {W : World} (x : Sb W) : List Value := Enc.cells x.1
def cfS {W : World} (x y : Sb W) : Int := cmpW x.1.r y.1.r
theorem ltS {W : World} (x y : Sb W) : ltOf cfS x y = decide (cmpW x.1.r y.1.r < 0) := rfl
theorem swoS (W : World) : SWO (ltOf (cfS (W := W))) where
  irrefl x := by
    rw [ltS]
    have := (cw_ord.zero x.1.r x.1.r).2 rfl
    simp [this]
  trans x y z h1 h2 := by
    rw [ltS] at *
    simp only [decide_eq_true_eq] at *
    have a := cw_ord.vals x.1.r y.1.r
    have b := cw_ord.vals y.1.r z.1.r
    have := cw_ord.trans x.1.r y.1.r z.1.r (by omega) (by omega)
    omega
  ntrans x y z h1 h2 := by
    rw [ltS] at *
    simp only [decide_eq_false_iff_not, Int.not_lt] at *
    have a := cw_ord.swap x.1.r y.1.r
    have b := cw_ord.swap y.1.r z.1.r
    have c := cw_ord.swap x.1.r z.1.r
    have := cw_ord.le_trans (a := z.1.r) (b := y.1.r) (d := x.1.r) (by omega) (by omega)
    omega
theorem flatS {W : World} (L : List (Sb W)) : flatK encS 2 L.toArray = (cellsG (L.map Subtype.val)).toArray := by
  have hs : Enc.sz P = 2 := rfl
  refine ext_get! (by simp [cellsG_len, hs]) fun t ht => ?_
  have ht' : t < L.length * 2 := by simpa using ht
  rw [get_flatK _ _ _ t (by simpa using ht')]
  have hd : t / 2 < L.length := by omega
  have hx := cellsG_at (L.map Subtype.val) (t / 2) (t % 2) (by simpa using hd) (Nat.mod_lt _ (by decide))
  have e : t / 2 * 2 + t % 2 = t := Nat.div_add_mod' t 2
  rw [show t / 2 * Enc.sz P + t % 2 = t from e] at hx
  have hl : t < (cellsG (L.map Subtype.val)).length := by rw [cellsG_len, hs]; simpa using ht'
  rw [List.getElem?_eq_getElem hl] at hx
  rw [getElem!_pos L.toArray (t / 2) (by simpa using hd), getElem!_pos (cellsG (L.map Subtype.val)).toArray t (by simpa using hl)]
  simp only [List.getElem_toArray]
  have h2 := hx.symm
  simp only [List.getElem_map] at h2
  unfold encS
  rw [List.getElem!_eq_getElem?_getD, h2]; rfl
theorem holdsS {W W0 w : World} {g cap : Nat} {L : List (Sb W0)} (h : OwnG tP.e W w (.slice (some ⟨g, 0, none⟩) L.length cap) (L.map Subtype.val)) : HoldsK encS 2 w g 0 L.toArray := by
  unfold HoldsK
  rw [flatS]
  intro j hj
  have hs : Enc.sz P = 2 := rfl
  have hj' : j < (cellsG (L.map Subtype.val)).length := by simpa using hj
  have ho := h.1
  rw [List.length_map] at ho
  refine ⟨?_, by rw [Nat.zero_add]; exact ho.frozenAt j⟩
  rw [Nat.zero_add, ho.cellAt j (by rw [cellsG_len, List.length_map] at hj'; exact hj'), List.getElem?_eq_getElem hj', getElem!_pos (cellsG (L.map Subtype.val)).toArray j (by simpa using hj')]
  simp
theorem own_sortedS {W W0 w : World} {g cap n0 : Nat} {l : List P} (h : OwnG tP.e W w (.slice (some ⟨g, 0, none⟩) n0 cap) l) (L : List (Sb W0)) (hl : L.length = n0) (n : Nat) (os : Array Obj) :
    OwnG tP.e W (sortWorldK encS 2 w g 0 n L.toArray os) (.slice (some ⟨g, 0, none⟩) n0 cap) (L.map Subtype.val) := by
  have ho := h.1
  have hs2 : Enc.sz P = 2 := rfl
  have hn0 := owns_len ho
  simp only [lenOf] at hn0
  rcases ho.2 with ⟨h', _⟩ | ⟨g', cap', cur, h', hb, hg, hnc, hcm, hcs, htake⟩
  · simp at h'
  · simp only [Value.slice.injEq, Option.some.injEq, Addr.mk.injEq, and_true] at h'
    obtain ⟨rfl, hnn, rfl⟩ := h'
    have hlt : g < w.heap.size := (Array.getElem?_eq_some_iff.1 hg).1
    have hgrow : w.grownBy (sortWorldK encS 2 w g 0 n L.toArray os) (some g) := by
      refine ⟨rfl, rfl, rfl, ?_, fun k hk hne => ?_⟩
      · show w.heap.size ≤ ((w.heap.modify g _) ++ os).size
        simp
      · show ((w.heap.modify g _) ++ os)[k]? = _
        rw [Array.getElem?_append_left (by simpa using hk), Array.getElem?_modify, if_neg (fun e => hne (by rw [e]))]
    refine h.grow hgrow ⟨by rw [cellsG_len], .inr ⟨g, cap, putCells id 0 (cellsG (L.map Subtype.val)).toArray cur, by rw [List.length_map, hl], hb, ?_, by rw [List.length_map, hl, hnn]; exact hnc, hcm, by simp [putCells, hcs], ?_⟩⟩
    · show ((w.heap.modify g _) ++ os)[g]? = _
      rw [Array.getElem?_append_left (by simpa using hlt), Array.getElem?_modify, if_pos rfl, hg, flatS]
      rfl
    · have hs : (L.map Subtype.val).length * Enc.sz P ≤ cur.size := by rw [hcs, List.length_map, hl, hnn]; exact Nat.mul_le_mul_right _ hnc
      apply List.ext_getElem?
      intro j
      rw [List.getElem?_take]
      by_cases hj : j < (L.map Subtype.val).length * Enc.sz P
      · rw [if_pos hj]
        have hj' : j < (cellsG (L.map Subtype.val)).length := by rw [cellsG_len]; exact hj
        rw [Array.getElem?_toList, putCells, Array.getElem?_mapIdx, Array.getElem?_eq_getElem (by omega), Option.map_some, if_pos ⟨Nat.zero_le _, by simpa using hj'⟩, List.getElem?_eq_getElem hj', Nat.sub_zero, getElem!_pos (cellsG (L.map Subtype.val)).toArray j (by simpa using hj')]
        simp
      · rw [if_neg hj, List.getElem?_eq_none (by rw [cellsG_len]; omega)]
/-- the rows with what is known of them -/
theorem lift_all {W : World} {ps : List P} (h : RdAll W ps) : ∃ L : List (Sb W), L.map Subtype.val = ps := by
  induction ps with
  | nil => exact ⟨[], rfl⟩
  | cons p ps ih =>
    obtain ⟨L, hL⟩ := ih fun q hq => h q (by simp [hq])
    exact ⟨⟨p, h p (by simp)⟩ :: L, by rw [List.map_cons, hL]⟩
theorem sort_rows (W w : World) (v : Value) (ps : List P) (hO : OwnG tP.e W w v ps) (hI : RdAll W ps) (hlen : ps.length ≤ 1000000) :
    Calls Tryz.prog 52 #[v, .func (.func 53) #[] #[]] w fun e w' => e = .returned (.tuple #[]) ∧ ∃ qs, qs.Perm ps ∧ Srtd (rows qs) ∧ OwnG tP.e W w' v qs := by
  obtain ⟨L, hL⟩ := lift_all hI
  have hLl : L.length = ps.length := by rw [← hL, List.length_map]
  rcases hO.1.2 with ⟨rfl, h0⟩ | ⟨g, cap, cur, rfl, hb, hg, hnc, hcm, hcs, htake⟩
  · have := AnyF.slices_SortFunc_none Tryz.sortW none 0 (.func (.func 53) #[] #[]) w
    refine this.mono ?_
    rintro e w' ⟨rfl, rfl⟩
    obtain rfl : ps = [] := List.eq_nil_of_length_eq_zero h0
    exact ⟨rfl, [], List.Perm.refl _, List.Pairwise.nil, hO⟩
  · have hlt : g < w.heap.size := (Array.getElem?_eq_some_iff.1 hg).1
    have eg : ∀ args w, (callFunc 53 args).run Tryz.prog w = .ok (.enter 53 args) w := enters_of Tryz.func53 (by kernel_rfl) rfl
    have hcmp : CmpLays Tryz.prog 53 #[] (encS (W := W)) 2 cfS g 0 L.toArray.size w := by
      intro m os dk hs x y
      have hE := (own_sortedS (W0 := W) hO dk.toList (by simpa [hLl] using hs) m os).2
      exact comp_gw x.1.r y.1.r _ _ _ _ _ (x.2.1.ext hE) (x.2.2.ext hE) (y.2.1.ext hE) (y.2.2.ext hE)
    have hcon := AnyQ.slices_SortFunc Tryz.sortW 2 Tryz.isAgg36 Tryz.sizeOf36 (encS (W := W)) (fun _ => rfl) (fun x v hv => Enc.one x.1 v hv) cfS (swoS W) 53 #[] g 0 cap L.toArray w eg
      hcmp (holdsS (by rw [hL, hLl]; exact hO)) hlt (by simp [hLl]; omega)
    change Calls Tryz.prog 52 _ _ _ at hcon
    rw [List.size_toArray, hLl] at hcon
    refine hcon.mono ?_
    rintro e w' ⟨rfl, d', n, os, ⟨hsz, _, hp⟩, hs, rfl⟩
    have hsz' : d'.toList.length = ps.length := by simpa [hLl] using hsz
    refine ⟨rfl, d'.toList.map Subtype.val, ?_, ?_, ?_⟩
    · have e1 : (d'.extract 0 ps.length) = d' := by rw [← hsz', Array.length_toList]; simp
      have e2 : (L.toArray.extract 0 ps.length) = L.toArray := by rw [← hLl]; simp
      rw [e1, e2] at hp
      have hp2 : d'.toList.Perm L := by simpa using hp
      rw [← hL]
      exact hp2.map _
    · unfold Srtd rows
      rw [List.map_map, List.pairwise_map, List.pairwise_iff_getElem]
      intro i j hi hj hij
      have hj2 : j < d'.size := by simpa using hj
      have hi2 : i < d'.size := by omega
      have := hs i j (Nat.zero_le _) hij (by omega)
      rw [ltS, getElem!_pos d' j hj2, getElem!_pos d' i hi2] at this
      simp only [decide_eq_false_iff_not, Int.not_lt] at this
      have hsw := cw_ord.swap d'[i].1.r d'[j].1.r
      simp only [Function.comp, Array.getElem_toList]
      omega
    · have := own_sortedS (W0 := W) hO d'.toList hsz' n os
      simpa using this
/-- what inOrder returns -/
def OrP (w : World) (ps : List P) (e : Ending) (w' : World) : Prop := ∃ v' qs, e = .returned v' ∧ OwnG tP.e w w' v' qs ∧ qs.Perm ps ∧ rows qs = sortR (rows ps)
set_option maxHeartbeats 1000000 in
theorem order_prg (ps : List P) (v : Value) (w : World) (h : RdG w v ps) (hI : RdAll w ps) (hl : ps.length ≤ 1000000) : Calls Tryz.prog 37 #[v] w (OrP w ps) := by
  have H := Lib.hid h
  have HI := Lib.hid hI
  have HL := Lib.hid hl
  clear h hI hl
  go_enter Tryz.func37, Tryz.ntmps37
  go_wp2_with fail
  refine (clone_P ps v w H.out HL.out).mono ?_; rintro e w1 ⟨v1, rfl, hO⟩
  have HO := Lib.hid hO
  clear hO
  go_wp2_with fail
  refine (sort_rows w w1 v1 ps HO.out HI.out HL.out).mono ?_; rintro e w2 ⟨rfl, qs, hp, hs, hO2⟩
  have HR := Lib.hid (sortR_of (hp.map P.r) hs)
  have HO2 := Lib.hid hO2
  have HP := Lib.hid hp
  clear hp hs hO2
  go_wp2_with fail
  go_ret
  exact ⟨_, qs, rfl, HO2.out, HP.out, HR.out⟩
end Go.Proofs.YtnckdopphimgoaaGreat
/- Copies of rows appended: rows of the call's own whose parts are its own too. -/
namespace Go.Proofs.YtnckdopphimgoaaGreat
open Go.ChangeShapes Go.WideShapes Go.ChangeAt Go.RowKit

/-- rows of the call's own whose parts lie off -/
def OwnR (W w : World) (v : Value) (l : List R) : Prop := ∃ ps : List P, OwnG tP.e W w v ps ∧ (∀ p ∈ ps, RdRow w p ∧ Off tP.e W w p.h.x ∧ Off tP.e W w p.h.y) ∧ rows ps = l
theorem OwnR.nil {W w : World} (h : Ext W w) : OwnR W w (.slice none 0 0) [] := ⟨[], OwnG.nil _ _ _ h, fun p hp => (by cases hp), rfl⟩
theorem OwnR.ext {W w w' : World} {v : Value} {l : List R} (h : OwnR W w v l) (k : Ext w w') : OwnR W w' v l := by
  obtain ⟨ps, h1, h2, h3⟩ := h
  exact ⟨ps, h1.ext k, fun p hp => ⟨(h2 p hp).1.ext k, (h2 p hp).2.1.ext k, (h2 p hp).2.2.ext k⟩, h3⟩
theorem OwnR.blk {W w : World} {v : Value} {l : List R} (h : OwnR W w v l) : RowBlk tP.e W w v.ownBlock := by
  obtain ⟨ps, h1, _, _⟩ := h; exact h1.blk
theorem OwnR.old {W w : World} {v : Value} {l : List R} (h : OwnR W w v l) : Ext W w := by
  obtain ⟨ps, h1, _, _⟩ := h; exact h1.2
theorem OwnR.lt {W w : World} {v : Value} {l : List R} (h : OwnR W w v l) (g : Nat) (hg : v.ownBlock = some g) : g < w.heap.size := by
  obtain ⟨ps, h1, _, _⟩ := h; exact h1.lt g hg
theorem RdRow.grw {W w w' : World} {p : P} {b : Option Nat} (h : RdRow w p ∧ Off tP.e W w p.h.x ∧ Off tP.e W w p.h.y) (k : Grw w w' b) (hb : RowBlk tP.e W w b) : RdRow w' p ∧ Off tP.e W w' p.h.x ∧ Off tP.e W w' p.h.y :=
  ⟨⟨h.1.1.grw h.2.1 k hb, h.1.2.grw h.2.2 k hb⟩, h.2.1.grw k hb, h.2.2.grw k hb⟩
/-- another row grows -/
theorem OwnR.grw {W w w' : World} {v : Value} {l : List R} {b : Option Nat} (h : OwnR W w v l) (k : Grw w w' b) (hb : RowBlk tP.e W w b) (hs : v.ownBlock = none ∨ v.ownBlock ≠ b) : OwnR W w' v l := by
  obtain ⟨ps, h1, h2, h3⟩ := h
  exact ⟨ps, h1.grw k hb hs, fun p hp => RdRow.grw (h2 p hp) k hb, h3⟩
/-- one row more, its parts lying off -/
theorem OwnR.more {W w w' : World} {v v' : Value} {l : List R} {ps : List P} {p : P} (h1 : OwnG tP.e W w v ps) (h2 : ∀ p ∈ ps, RdRow w p ∧ Off tP.e W w p.h.x ∧ Off tP.e W w p.h.y) (h3 : rows ps = l) (hp : RdRow w p ∧ Off tP.e W w p.h.x ∧ Off tP.e W w p.h.y)
    (ho : OwnG tP.e W w' v' (ps ++ [p])) (hg : w.grownBy w' v.ownBlock) : OwnR W w' v' (l ++ [p.r]) := by
  refine ⟨ps ++ [p], ho, fun q hq => ?_, by rw [rows_app, h3]; rfl⟩
  rcases List.mem_append.1 hq with hq | hq
  · exact RdRow.grw (h2 q hq) (grw_by hg) h1.blk
  · obtain rfl := List.mem_singleton.1 hq
    exact RdRow.grw hp (grw_by hg) h1.blk
theorem OwnR.rd {W w : World} {v : Value} {l : List R} (h : OwnR W w v l) : ∃ ps, RdG w v ps ∧ RdAll w ps ∧ rows ps = l := by
  obtain ⟨ps, h1, h2, h3⟩ := h
  exact ⟨ps, h1.rd, fun p hp => (h2 p hp).1, h3⟩
/-- what appendCopies leaves -/
def AcP (W w : World) (v : Value) (l : List R) (e : Ending) (w' : World) : Prop := ∃ v', e = .returned v' ∧ OwnR W w' v' l ∧ Grw w w' v.ownBlock ∧ Loc w v v'
def AcR (W w : World) (v : Value) (l m : List R) (vk i : Value) (wr : World) : Prop := ∃ k : Nat, k ≤ m.length ∧ i = .int .i64 k ∧ OwnR W wr vk (l ++ m.take k) ∧ Grw w wr v.ownBlock ∧ Loc w v vk
theorem AcR.next {W w wr w1 w' : World} {v vk v' : Value} {l m : List R} {k : Nat} {r : R} (hk : k < m.length) (hr : m[k] = r) (g1 : Grw w wr v.ownBlock) (l1 : Loc w v vk) (hE : Ext wr w1) (g2 : w1.grownBy w' vk.ownBlock) (l2 : Loc w1 vk v') (hO : OwnR W w' v' (l ++ m.take k ++ [r])) : AcR W w v l m v' (.int .i64 ((k + 1 : Nat) : Int)) w' := by
  refine ⟨k + 1, hk, rfl, ?_, ?_, l1.trans l2 (Nat.le_trans g1.size hE.2.2)⟩
  · rw [List.take_succ_eq_append_getElem hk, hr, ← List.append_assoc]; exact hO
  · refine (g1.trans (grw_ext hE v.ownBlock) (.inl rfl)).trans (grw_by g2) ?_
    rcases l1 with l1 | ⟨g, l1, hg⟩
    · exact .inl l1
    · exact .inr ⟨g, l1, hg⟩
set_option maxHeartbeats 8000000 in
set_option maxRecDepth 100000 in
theorem copies_prg (W w : World) (v : Value) (l : List R) (ps : List P) (vr : Value) (hO : OwnR W w v l) (hr : RdG W vr ps) (hI : RdAll W ps) (hl : l.length + ps.length ≤ 1000000) (hs : ∀ p ∈ ps, p.r.v.length ≤ 1000000 ∧ p.r.t.length ≤ 1000000) :
    Calls Tryz.prog 36 #[v, vr] w (AcP W w v (l ++ rows ps)) := by
  obtain ⟨ad, cap, rfl, h1, h2⟩ := hr.shape
  have HR := Lib.hid hr
  have HI := Lib.hid hI
  have HO := Lib.hid hO
  have HL := Lib.hid hl
  have HS := Lib.hid hs
  clear hr hI hO hl hs
  unfold maxLen at h2
  obtain ⟨n, hn⟩ : ∃ n, n = ps.length := ⟨_, rfl⟩
  have HN := Lib.hid hn
  rw [← hn] at HR h1 ⊢
  clear hn
  go_enter Tryz.func36, Tryz.ntmps36
  go_wp2_with fail
  go_loopw [0, 9] (AcR W w v l (rows ps)) (fun _ i _ => n - (intOf i).toNat)
  case atStart => exact ⟨0, Nat.zero_le _, rfl, by simpa using HO.out, Grw.refl _ _, Loc.refl _ _⟩
  case round =>
    obtain ⟨k, hk, rfl, hOk, hG, hLo⟩ := hrel
    rw [rows_len] at hk
    have hkn : k ≤ n := by rw [HN.out]; exact hk
    by_cases hlt : k < n
    · have hlt' : k < ps.length := by rw [← HN.out]; exact hlt
      obtain ⟨g, o, rfl, c0', c1'⟩ := rd_P HR.out k hlt'
      have hWr := hOk.old
      have c0 := hWr.keeps c0'
      have c1 := hWr.keeps c1'
      have hix := HI.out ps[k] (List.getElem_mem _)
      have hsx := HS.out ps[k] (List.getElem_mem _)
      have HE := Lib.hid (show (rows ps)[k]'(by rw [rows_len]; exact hlt') = ps[k].r from rows_at ps k hlt')
      clear c0' c1'
      generalize ps[k] = x at *
      obtain ⟨⟨xa, xn, xc, xb, xm, xd⟩, xr⟩ := x
      simp only [Hd.x, Hd.y] at c0 c1
      have hcv := fun w2 (hg : Ext W w2) => clone_V xr.v _ w2 (hix.1.ext hg) hsx.1
      have hci := fun w2 (hg : Ext W w2) => clone_I xr.t _ w2 (hix.2.ext hg) hsx.2
      simp only [Hd.x, Hd.y] at hcv hci
      have HV := Lib.hid hcv
      have HC := Lib.hid hci
      have HLo := Lib.hid hLo
      obtain ⟨qs, hq1, hq2, hq3⟩ := hOk
      have hqn : qs.length ≤ 1000000 := by
        have e1 : (rows qs).length = qs.length := rows_len qs
        rw [hq3, List.length_append, List.length_take] at e1
        have := HL.out; omega
      clear hcv hci hix hsx hLo
      have B0 : (wr.alloc (.cells #[.slice xa xn xc, .slice xb xm xd] 36)).cell? ⟨wr.heap.size, 0, none⟩ = some (.slice xa xn xc) := al0 _ _ _ _
      have B1 : (wr.alloc (.cells #[.slice xa xn xc, .slice xb xm xd] 36)).cell? ⟨wr.heap.size, 1, none⟩ = some (.slice xb xm xd) := al1 _ _ _ _
      have EX : Ext wr (wr.alloc (.cells #[.slice xa xn xc, .slice xb xm xd] 36)) := (Ext.refl wr).alloc _ _
      go_wp2_with fail
      generalize wr.alloc (.cells #[.slice xa xn xc, .slice xb xm xd] 36) = w0 at *
      have K0 := Lib.hid B0
      have K1 := Lib.hid B1
      have HW0 := Lib.hid (hWr.trans EX)
      have HG := Lib.hid hG
      have HQ := Lib.hid hq1
      have HQ2 := Lib.hid hq2
      have HEX := Lib.hid EX
      have HQ3 := Lib.hid hq3
      have HQN := Lib.hid hqn
      have HB := Lib.hid (fun g hg => hq1.lt g hg)
      have hb0 : wr.heap.size < w0.heap.size := World.block_lt_of_cell? _ _ B0
      clear c0 c1 hWr EX hG hq1 hq2 hq3 hqn
      go_region_held3 (fun w' => w'.cell? ⟨wr.heap.size, 0, none⟩ = some (.slice xa xn xc) ∧ w'.cell? ⟨wr.heap.size, 1, none⟩ = some (.slice xb xm xd)) (first | exact ⟨K0.out, K1.out⟩ | exact ⟨f0, f1⟩ | exact ⟨g0, g1⟩ | exact ⟨r0, r1⟩ | go_keep)
        (first | (go_at_call 49; refine (HV.out _ ?_).mono ?_; (first | exact HW0.out | exact HW0.out.drew); rintro e w3 ⟨v3, rfl, hO3⟩; obtain ⟨a3, c3, rfl, _, _⟩ := hO3.rd.shape; have e3 : Ext w0 w3 := ⟨hO3.2.1, hO3.2.2.1, hO3.2.2.2⟩; have f0 := e3.keeps K0.out; have f1 := e3.keeps K1.out; have HO3 := Lib.hid hO3; clear hO3) | (go_at_call 50; refine (HC.out _ ?_).mono ?_; (first | exact HW0.out.trans e3 | exact (HW0.out.trans e3).drew); rintro e w4 ⟨v4, rfl, hO4⟩; obtain ⟨a4, c4, rfl, _, _⟩ := hO4.rd.shape; have e4 : Ext w3 w4 := ⟨hO4.2.1, hO4.2.2.1, hO4.2.2.2⟩; have g0 := e4.keeps f0; have g1 := e4.keeps f1; have HO4 := Lib.hid hO4; clear hO4) | (refine step_appGL tP rfl _ _ rfl W _ qs rfl ?a1 _ [⟨⟨a3, xr.v.length, c3, a4, xr.t.length, c4⟩, xr⟩] rfl ?a2 ?a3 ?_; (have z1 := HQ.out.ext (HEX.out.trans (e3.trans (e4.alloc #[Value.slice a3 xr.v.length c3, Value.slice a4 xr.t.length c4] 36))); case a1 => exact z1); (have z2 := rd_litG w4 [(⟨⟨a3, xr.v.length, c3, a4, xr.t.length, c4⟩, xr⟩ : P)] #[.slice a3 xr.v.length c3, .slice a4 xr.t.length c4] 36 _ 1 rfl rfl (by simp) rfl; case a2 => exact z2); (case a3 => have := HQN.out; simp; omega); intro v5 w5 hO5 hg5 hl5; have r0 := grow_cell hg5 (((Ext.refl w4).alloc _ _).keeps g0) (fun kk hh => by have := HB.out kk hh; omega); have r1 := grow_cell hg5 (((Ext.refl w4).alloc _ _).keeps g1) (fun kk hh => by have := HB.out kk hh; omega)))
      all_goals
        have hx1 : Ext w4 (w4.alloc (.cells #[.slice a3 xr.v.length c3, .slice a4 xr.t.length c4] 36)) := (Ext.refl w4).alloc _ _
        have hp : RdRow (w4.alloc (.cells #[.slice a3 xr.v.length c3, .slice a4 xr.t.length c4] 36)) (⟨⟨a3, xr.v.length, c3, a4, xr.t.length, c4⟩, xr⟩ : P) ∧ Off tP.e W (w4.alloc (.cells #[.slice a3 xr.v.length c3, .slice a4 xr.t.length c4] 36)) (Hd.x (P.h (⟨⟨a3, xr.v.length, c3, a4, xr.t.length, c4⟩, xr⟩ : P))) ∧ Off tP.e W (w4.alloc (.cells #[.slice a3 xr.v.length c3, .slice a4 xr.t.length c4] 36)) (Hd.y (P.h (⟨⟨a3, xr.v.length, c3, a4, xr.t.length, c4⟩, xr⟩ : P))) :=
          ⟨⟨HO3.out.rd.ext (e4.trans hx1), HO4.out.rd.ext hx1⟩, (HO3.out.off (by decide)).ext (e4.trans hx1), (HO4.out.off (by decide)).ext hx1⟩
        have hEL := HEX.out.trans (e3.trans (e4.trans hx1))
        have hOR := Lib.hid (OwnR.more (HQ.out.ext hEL) (fun p hp => ⟨(HQ2.out p hp).1.ext hEL, (HQ2.out p hp).2.1.ext hEL, (HQ2.out p hp).2.2.ext hEL⟩) HQ3.out hp hO5 hg5)
        have HEL := Lib.hid hEL
        clear hEL hp hx1
        go_wp2_with fail
        go_roundw
        case rel => exact AcR.next (by rw [rows_len]; exact hlt') HE.out HG.out HLo.out HEL.out hg5 hl5 hOR.out
        case measure => simp [intOf]; omega
    · have hke : k = n := by omega
      have hall : (rows ps).take k = rows ps := by rw [List.take_of_length_le]; rw [rows_len, ← HN.out]; omega
      rw [hall] at hOk
      have HOk := Lib.hid hOk
      clear hOk hall
      go_wp2_with fail
      go_ret
      exact ⟨_, rfl, HOk.out, hG, hLo⟩
set_option maxHeartbeats 1000000 in
theorem sort_prg (ps : List P) (v : Value) (w : World) (h : RdG w v ps) (hI : RdAll w ps) (hl : ps.length ≤ 1000000) (hs : ∀ p ∈ ps, p.r.v.length ≤ 1000000 ∧ p.r.t.length ≤ 1000000) : Calls Tryz.prog 24 #[v] w fun e w' => ∃ v' qs, e = .returned v' ∧ RdG w' v' qs ∧ RdAll w' qs ∧ rows qs = sortR (rows ps) ∧ Ext w w' := by
  have H := Lib.hid h
  have HI := Lib.hid hI
  have HL := Lib.hid hl
  have HS := Lib.hid hs
  clear h hI hl hs
  go_enter Tryz.func24, Tryz.ntmps24
  go_wp2_with fail
  refine (order_prg ps v w H.out HI.out HL.out).mono ?_; rintro e w1 ⟨v1, qs, rfl, hO, hp, hr⟩
  have HO := Lib.hid hO
  have HP := Lib.hid hp
  have HR := Lib.hid hr
  have HA : RdAll w1 qs := fun q hq => (HI.out q (hp.mem_iff.1 hq)).ext hO.2
  have HA' := Lib.hid HA
  clear hO hp hr HA
  go_wp2_with fail
  refine (copies_prg w1 w1 (.slice none 0 0) [] qs v1 (OwnR.nil (Ext.refl _)) HO.out.rd HA'.out (by have := HP.out.length_eq; have := HL.out; simp; omega) (fun q hq => HS.out q (HP.out.mem_iff.1 hq))).mono ?_
  rintro e w2 ⟨v2, rfl, hO2, _, _⟩
  rw [List.nil_append, HR.out] at hO2
  have HO2 := Lib.hid hO2
  clear hO2
  go_wp2_with fail
  go_ret
  obtain ⟨rs, hr1, hr2, hr3⟩ := HO2.out.rd
  exact ⟨_, rs, rfl, hr1, hr2, hr3, HO.out.2.trans HO2.out.old⟩
end Go.Proofs.YtnckdopphimgoaaGreat
