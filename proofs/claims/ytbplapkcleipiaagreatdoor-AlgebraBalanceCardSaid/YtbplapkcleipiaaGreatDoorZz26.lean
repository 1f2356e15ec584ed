/- The program's inOrder: a clone, sorted by the library's contract. -/
import Derived.Shelf.SlSortCmp.NoneTotal
import Derived.Test.YtbplapkcleipiaaGreatDoorZz04
import Derived.Test.YtbplapkcleipiaaGreatDoorZz12
import Derived.Test.YtbplapkcleipiaaGreatDoorZz24
import Derived.Test.YtbplapkcleipiaaGreatDoorZz25
namespace Go.Proofs.YtbplapkcleipiaaGreatDoor
open Go.ChangeShapes Go.WideShapes Go.ChangeAt Go.RowKit Go.Shelf Go.Lib Go.Sort

/-- rows that can be read in a world -/
abbrev Sb (W : World) := { p : P // RdRow W p }
instance (W : World) : Inhabited (Sb W) := ⟨⟨default, ⟨rdG_nil _, rdG_nil _⟩⟩⟩
def encS {W : World} (x : Sb W) : List Value := Enc.cells x.1
def cfS {W : World} (x y : Sb W) : Int := cmpW x.1.r y.1.r
theorem ltS {W : World} (x y : Sb W) : ltOf cfS x y = decide (cmpW x.1.r y.1.r < 0) := rfl
theorem swoS (W : World) : SWO (ltOf (cfS (W := W))) where
  irrefl x := by
    rw [ltS]
    have := (cw_ord.zero x.1.r x.1.r).2 rfl
    simp [this]
  trans x y z h1 h2 := by
    rw [ltS] at *
    simp only [decide_eq_true_eq] at *
    have a := cw_ord.vals x.1.r y.1.r
    have b := cw_ord.vals y.1.r z.1.r
    have := cw_ord.trans x.1.r y.1.r z.1.r (by omega) (by omega)
    omega
  ntrans x y z h1 h2 := by
    rw [ltS] at *
    simp only [decide_eq_false_iff_not, Int.not_lt] at *
    have a := cw_ord.swap x.1.r y.1.r
    have b := cw_ord.swap y.1.r z.1.r
    have c := cw_ord.swap x.1.r z.1.r
    have := cw_ord.le_trans (a := z.1.r) (b := y.1.r) (d := x.1.r) (by omega) (by omega)
    omega
theorem flatS {W : World} (L : List (Sb W)) : flatK encS 2 L.toArray = (cellsG (L.map Subtype.val)).toArray := by
  have hs : Enc.sz P = 2 := rfl
  refine ext_get! (by simp [cellsG_len, hs]) fun t ht => ?_
  have ht' : t < L.length * 2 := by simpa using ht
  rw [get_flatK _ _ _ t (by simpa using ht')]
  have hd : t / 2 < L.length := by omega
  have hx := cellsG_at (L.map Subtype.val) (t / 2) (t % 2) (by simpa using hd) (Nat.mod_lt _ (by decide))
  have e : t / 2 * 2 + t % 2 = t := Nat.div_add_mod' t 2
  rw [show t / 2 * Enc.sz P + t % 2 = t from e] at hx
  have hl : t < (cellsG (L.map Subtype.val)).length := by rw [cellsG_len, hs]; simpa using ht'
  rw [List.getElem?_eq_getElem hl] at hx
  rw [getElem!_pos L.toArray (t / 2) (by simpa using hd), getElem!_pos (cellsG (L.map Subtype.val)).toArray t (by simpa using hl)]
  simp only [List.getElem_toArray]
  have h2 := hx.symm
  simp only [List.getElem_map] at h2
  unfold encS
  rw [List.getElem!_eq_getElem?_getD, h2]; rfl
theorem holdsS {W W0 w : World} {g cap : Nat} {L : List (Sb W0)} (h : OwnG tP.e W w (.slice (some ⟨g, 0, none⟩) L.length cap) (L.map Subtype.val)) : HoldsK encS 2 w g 0 L.toArray := by
  unfold HoldsK
  rw [flatS]
  intro j hj
  have hs : Enc.sz P = 2 := rfl
  have hj' : j < (cellsG (L.map Subtype.val)).length := by simpa using hj
  have ho := h.1
  rw [List.length_map] at ho
  refine ⟨?_, by rw [Nat.zero_add]; exact ho.frozenAt j⟩
  rw [Nat.zero_add, ho.cellAt j (by rw [cellsG_len, List.length_map] at hj'; exact hj'), List.getElem?_eq_getElem hj', getElem!_pos (cellsG (L.map Subtype.val)).toArray j (by simpa using hj')]
  simp
theorem own_sortedS {W W0 w : World} {g cap n0 : Nat} {l : List P} (h : OwnG tP.e W w (.slice (some ⟨g, 0, none⟩) n0 cap) l) (L : List (Sb W0)) (hl : L.length = n0) (n : Nat) (os : Array Obj) :
    OwnG tP.e W (sortWorldK encS 2 w g 0 n L.toArray os) (.slice (some ⟨g, 0, none⟩) n0 cap) (L.map Subtype.val) := by
  have ho := h.1
  have hs2 : Enc.sz P = 2 := rfl
  have hn0 := owns_len ho
  simp only [lenOf] at hn0
  rcases ho.2 with ⟨h', _⟩ | ⟨g', cap', cur, h', hb, hg, hnc, hcm, hcs, htake⟩
  · simp at h'
  · simp only [Value.slice.injEq, Option.some.injEq, Addr.mk.injEq, and_true] at h'
    obtain ⟨rfl, hnn, rfl⟩ := h'
    have hlt : g < w.heap.size := (Array.getElem?_eq_some_iff.1 hg).1
    have hgrow : w.grownBy (sortWorldK encS 2 w g 0 n L.toArray os) (some g) := by
      refine ⟨rfl, rfl, rfl, ?_, fun k hk hne => ?_⟩
      · show w.heap.size ≤ ((w.heap.modify g _) ++ os).size
        simp
      · show ((w.heap.modify g _) ++ os)[k]? = _
        rw [Array.getElem?_append_left (by simpa using hk), Array.getElem?_modify, if_neg (fun e => hne (by rw [e]))]
    refine h.grow hgrow ⟨by rw [cellsG_len], .inr ⟨g, cap, putCells id 0 (cellsG (L.map Subtype.val)).toArray cur, by rw [List.length_map, hl], hb, ?_, by rw [List.length_map, hl, hnn]; exact hnc, hcm, by simp [putCells, hcs], ?_⟩⟩
    · show ((w.heap.modify g _) ++ os)[g]? = _
      rw [Array.getElem?_append_left (by simpa using hlt), Array.getElem?_modify, if_pos rfl, hg, flatS]
      rfl
    · have hs : (L.map Subtype.val).length * Enc.sz P ≤ cur.size := by rw [hcs, List.length_map, hl, hnn]; exact Nat.mul_le_mul_right _ hnc
      apply List.ext_getElem?
      intro j
      rw [List.getElem?_take]
      by_cases hj : j < (L.map Subtype.val).length * Enc.sz P
      · rw [if_pos hj]
        have hj' : j < (cellsG (L.map Subtype.val)).length := by rw [cellsG_len]; exact hj
        rw [Array.getElem?_toList, putCells, Array.getElem?_mapIdx, Array.getElem?_eq_getElem (by omega), Option.map_some, if_pos ⟨Nat.zero_le _, by simpa using hj'⟩, List.getElem?_eq_getElem hj', Nat.sub_zero, getElem!_pos (cellsG (L.map Subtype.val)).toArray j (by simpa using hj')]
        simp
      · rw [if_neg hj, List.getElem?_eq_none (by rw [cellsG_len]; omega)]
/-- the rows with what is known of them -/
theorem lift_all {W : World} {ps : List P} (h : RdAll W ps) : ∃ L : List (Sb W), L.map Subtype.val = ps := by
  induction ps with
  | nil => exact ⟨[], rfl⟩
  | cons p ps ih =>
    obtain ⟨L, hL⟩ := ih fun q hq => h q (by simp [hq])
    exact ⟨⟨p, h p (by simp)⟩ :: L, by rw [List.map_cons, hL]⟩
theorem sort_rows (W w : World) (v : Value) (ps : List P) (hO : OwnG tP.e W w v ps) (hI : RdAll W ps) (hlen : ps.length ≤ 1000000) :
    Calls Tryz.prog 53 #[v, .func (.func 54) #[] #[]] w fun e w' => e = .returned (.tuple #[]) ∧ ∃ qs, qs.Perm ps ∧ Srtd (rows qs) ∧ OwnG tP.e W w' v qs := by
  obtain ⟨L, hL⟩ := lift_all hI
  have hLl : L.length = ps.length := by rw [← hL, List.length_map]
  rcases hO.1.2 with ⟨rfl, h0⟩ | ⟨g, cap, cur, rfl, hb, hg, hnc, hcm, hcs, htake⟩
  · have := AnyF.slices_SortFunc_none Tryz.sortW none 0 (.func (.func 54) #[] #[]) w
    refine this.mono ?_
    rintro e w' ⟨rfl, rfl⟩
    obtain rfl : ps = [] := List.eq_nil_of_length_eq_zero h0
    exact ⟨rfl, [], List.Perm.refl _, List.Pairwise.nil, hO⟩
  · have hlt : g < w.heap.size := (Array.getElem?_eq_some_iff.1 hg).1
    have eg : ∀ args w, (callFunc 54 args).run Tryz.prog w = .ok (.enter 54 args) w := enters_of Tryz.func54 (by kernel_rfl) rfl
    have hcmp : CmpLays Tryz.prog 54 #[] (encS (W := W)) 2 cfS g 0 L.toArray.size w := by
      intro m os dk hs x y
      have hE := (own_sortedS (W0 := W) hO dk.toList (by simpa [hLl] using hs) m os).2
      exact comp_gw x.1.r y.1.r _ _ _ _ _ (x.2.1.ext hE) (x.2.2.ext hE) (y.2.1.ext hE) (y.2.2.ext hE)
    have hcon := AnyQ.slices_SortFunc Tryz.sortW 2 Tryz.isAgg51 Tryz.sizeOf51 (encS (W := W)) (fun _ => rfl) (fun x v hv => Enc.one x.1 v hv) cfS (swoS W) 54 #[] g 0 cap L.toArray w eg
      hcmp (holdsS (by rw [hL, hLl]; exact hO)) hlt (by simp [hLl]; omega)
    change Calls Tryz.prog 53 _ _ _ at hcon
    rw [List.size_toArray, hLl] at hcon
    refine hcon.mono ?_
    rintro e w' ⟨rfl, d', n, os, ⟨hsz, _, hp⟩, hs, rfl⟩
    have hsz' : d'.toList.length = ps.length := by simpa [hLl] using hsz
    refine ⟨rfl, d'.toList.map Subtype.val, ?_, ?_, ?_⟩
    · have e1 : (d'.extract 0 ps.length) = d' := by rw [← hsz', Array.length_toList]; simp
      have e2 : (L.toArray.extract 0 ps.length) = L.toArray := by rw [← hLl]; simp
      rw [e1, e2] at hp
      have hp2 : d'.toList.Perm L := by simpa using hp
      rw [← hL]
      exact hp2.map _
    · unfold Srtd rows
      rw [List.map_map, List.pairwise_map, List.pairwise_iff_getElem]
      intro i j hi hj hij
      have hj2 : j < d'.size := by simpa using hj
      have hi2 : i < d'.size := by omega
      have := hs i j (Nat.zero_le _) hij (by omega)
      rw [ltS, getElem!_pos d' j hj2, getElem!_pos d' i hi2] at this
      simp only [decide_eq_false_iff_not, Int.not_lt] at this
      have hsw := cw_ord.swap d'[i].1.r d'[j].1.r
      simp only [Function.comp, Array.getElem_toList]
      omega
    · have := own_sortedS (W0 := W) hO d'.toList hsz' n os
      simpa using this
/-- what inOrder returns -/
def OrP (w : World) (ps : List P) (e : Ending) (w' : World) : Prop := ∃ v' qs, e = .returned v' ∧ OwnG tP.e w w' v' qs ∧ qs.Perm ps ∧ rows qs = sortR (rows ps)
set_option maxHeartbeats 1000000 in
theorem order_prg (ps : List P) (v : Value) (w : World) (h : RdG w v ps) (hI : RdAll w ps) (hl : ps.length ≤ 1000000) : Calls Tryz.prog 36 #[v] w (OrP w ps) := by
  have H := Lib.hid h
  have HI := Lib.hid hI
  have HL := Lib.hid hl
  clear h hI hl
  go_enter Tryz.func36, Tryz.ntmps36
  go_wp2_with fail
  refine (clone_P ps v w H.out HL.out).mono ?_; rintro e w1 ⟨v1, rfl, hO⟩
  have HO := Lib.hid hO
  clear hO
  go_wp2_with fail
  refine (sort_rows w w1 v1 ps HO.out HI.out HL.out).mono ?_; rintro e w2 ⟨rfl, qs, hp, hs, hO2⟩
  have HR := Lib.hid (sortR_of (hp.map P.r) hs)
  have HO2 := Lib.hid hO2
  have HP := Lib.hid hp
  clear hp hs hO2
  go_wp2_with fail
  go_ret
  exact ⟨_, qs, rfl, HO2.out, HP.out, HR.out⟩
end Go.Proofs.YtbplapkcleipiaaGreatDoor
/- Copies of rows appended: rows of the call's own whose parts are its own too. -/
namespace Go.Proofs.YtbplapkcleipiaaGreatDoor
open Go.ChangeShapes Go.WideShapes Go.ChangeAt Go.RowKit

/-- rows of the call's own whose parts lie off -/
def OwnR (W w : World) (v : Value) (l : List R) : Prop := ∃ ps : List P, OwnG tP.e W w v ps ∧ (∀ p ∈ ps, RdRow w p ∧ Off tP.e W w p.h.x ∧ Off tP.e W w p.h.y) ∧ rows ps = l
theorem OwnR.nil {W w : World} (h : Ext W w) : OwnR W w (.slice none 0 0) [] := ⟨[], OwnG.nil _ _ _ h, fun p hp => (by cases hp), rfl⟩
theorem OwnR.ext {W w w' : World} {v : Value} {l : List R} (h : OwnR W w v l) (k : Ext w w') : OwnR W w' v l := by
  obtain ⟨ps, h1, h2, h3⟩ := h
  exact ⟨ps, h1.ext k, fun p hp => ⟨(h2 p hp).1.ext k, (h2 p hp).2.1.ext k, (h2 p hp).2.2.ext k⟩, h3⟩
theorem OwnR.blk {W w : World} {v : Value} {l : List R} (h : OwnR W w v l) : RowBlk tP.e W w v.ownBlock := by
  obtain ⟨ps, h1, _, _⟩ := h; exact h1.blk
theorem OwnR.old {W w : World} {v : Value} {l : List R} (h : OwnR W w v l) : Ext W w := by
  obtain ⟨ps, h1, _, _⟩ := h; exact h1.2
theorem OwnR.lt {W w : World} {v : Value} {l : List R} (h : OwnR W w v l) (g : Nat) (hg : v.ownBlock = some g) : g < w.heap.size := by
  obtain ⟨ps, h1, _, _⟩ := h; exact h1.lt g hg
theorem RdRow.grw {W w w' : World} {p : P} {b : Option Nat} (h : RdRow w p ∧ Off tP.e W w p.h.x ∧ Off tP.e W w p.h.y) (k : Grw w w' b) (hb : RowBlk tP.e W w b) : RdRow w' p ∧ Off tP.e W w' p.h.x ∧ Off tP.e W w' p.h.y :=
  ⟨⟨h.1.1.grw h.2.1 k hb, h.1.2.grw h.2.2 k hb⟩, h.2.1.grw k hb, h.2.2.grw k hb⟩
/-- another row grows -/
theorem OwnR.grw {W w w' : World} {v : Value} {l : List R} {b : Option Nat} (h : OwnR W w v l) (k : Grw w w' b) (hb : RowBlk tP.e W w b) (hs : v.ownBlock = none ∨ v.ownBlock ≠ b) : OwnR W w' v l := by
  obtain ⟨ps, h1, h2, h3⟩ := h
  exact ⟨ps, h1.grw k hb hs, fun p hp => RdRow.grw (h2 p hp) k hb, h3⟩
/-- one row more, its parts lying off -/
theorem OwnR.more {W w w' : World} {v v' : Value} {l : List R} {ps : List P} {p : P} (h1 : OwnG tP.e W w v ps) (h2 : ∀ p ∈ ps, RdRow w p ∧ Off tP.e W w p.h.x ∧ Off tP.e W w p.h.y) (h3 : rows ps = l) (hp : RdRow w p ∧ Off tP.e W w p.h.x ∧ Off tP.e W w p.h.y)
    (ho : OwnG tP.e W w' v' (ps ++ [p])) (hg : w.grownBy w' v.ownBlock) : OwnR W w' v' (l ++ [p.r]) := by
  refine ⟨ps ++ [p], ho, fun q hq => ?_, by rw [rows_app, h3]; rfl⟩
  rcases List.mem_append.1 hq with hq | hq
  · exact RdRow.grw (h2 q hq) (grw_by hg) h1.blk
  · obtain rfl := List.mem_singleton.1 hq
    exact RdRow.grw hp (grw_by hg) h1.blk
theorem OwnR.rd {W w : World} {v : Value} {l : List R} (h : OwnR W w v l) : ∃ ps, RdG w v ps ∧ RdAll w ps ∧ rows ps = l := by
  obtain ⟨ps, h1, h2, h3⟩ := h
  exact ⟨ps, h1.rd, fun p hp => (h2 p hp).1, h3⟩
/-- what appendCopies leaves -/
def AcP (W w : World) (v : Value) (l : List R) (e : Ending) (w' : World) : Prop := ∃ v', e = .returned v' ∧ OwnR W w' v' l ∧ Grw w w' v.ownBlock ∧ Loc w v v'
def AcR (W w : World) (v : Value) (l m : List R) (vk i : Value) (wr : World) : Prop := ∃ k : Nat, k ≤ m.length ∧ i = .int .i64 k ∧ OwnR W wr vk (l ++ m.take k) ∧ Grw w wr v.ownBlock ∧ Loc w v vk
theorem AcR.next {W w wr w1 w' : World} {v vk v' : Value} {l m : List R} {k : Nat} {r : R} (hk : k < m.length) (hr : m[k] = r) (g1 : Grw w wr v.ownBlock) (l1 : Loc w v vk) (hE : Ext wr w1) (g2 : w1.grownBy w' vk.ownBlock) (l2 : Loc w1 vk v') (hO : OwnR W w' v' (l ++ m.take k ++ [r])) : AcR W w v l m v' (.int .i64 ((k + 1 : Nat) : Int)) w' := by
  refine ⟨k + 1, hk, rfl, ?_, ?_, l1.trans l2 (Nat.le_trans g1.size hE.2.2)⟩
  · rw [List.take_succ_eq_append_getElem hk, hr, ← List.append_assoc]; exact hO
  · refine (g1.trans (grw_ext hE v.ownBlock) (.inl rfl)).trans (grw_by g2) ?_
    rcases l1 with l1 | ⟨g, l1, hg⟩
    · exact .inl l1
    · exact .inr ⟨g, l1, hg⟩
set_option maxHeartbeats 8000000 in
set_option maxRecDepth 100000 in
theorem copies_prg (W w : World) (v : Value) (l : List R) (ps : List P) (vr : Value) (hO : OwnR W w v l) (hr : RdG W vr ps) (hI : RdAll W ps) (hl : l.length + ps.length ≤ 1000000) (hs : ∀ p ∈ ps, p.r.v.length ≤ 1000000 ∧ p.r.t.length ≤ 1000000) :
    Calls Tryz.prog 38 #[v, vr] w (AcP W w v (l ++ rows ps)) := by
  obtain ⟨ad, cap, rfl, h1, h2⟩ := hr.shape
  have HR := Lib.hid hr
  have HI := Lib.hid hI
  have HO := Lib.hid hO
  have HL := Lib.hid hl
  have HS := Lib.hid hs
  clear hr hI hO hl hs
  unfold maxLen at h2
  obtain ⟨n, hn⟩ : ∃ n, n = ps.length := ⟨_, rfl⟩
  have HN := Lib.hid hn
  rw [← hn] at HR h1 ⊢
  clear hn
  go_enter Tryz.func38, Tryz.ntmps38
  go_wp2_with fail
  go_loopw [0, 9] (AcR W w v l (rows ps)) (fun _ i _ => n - (intOf i).toNat)
  case atStart => exact ⟨0, Nat.zero_le _, rfl, by simpa using HO.out, Grw.refl _ _, Loc.refl _ _⟩
  case round =>
    obtain ⟨k, hk, rfl, hOk, hG, hLo⟩ := hrel
    rw [rows_len] at hk
    have hkn : k ≤ n := by rw [HN.out]; exact hk
    by_cases hlt : k < n
    · have hlt' : k < ps.length := by rw [← HN.out]; exact hlt
      obtain ⟨g, o, rfl, c0', c1'⟩ := rd_P HR.out k hlt'
      have hWr := hOk.old
      have c0 := hWr.keeps c0'
      have c1 := hWr.keeps c1'
      have hix := HI.out ps[k] (List.getElem_mem _)
      have hsx := HS.out ps[k] (List.getElem_mem _)
      have HE := Lib.hid (show (rows ps)[k]'(by rw [rows_len]; exact hlt') = ps[k].r from rows_at ps k hlt')
      clear c0' c1'
      generalize ps[k] = x at *
      obtain ⟨⟨xa, xn, xc, xb, xm, xd⟩, xr⟩ := x
      simp only [Hd.x, Hd.y] at c0 c1
      have hcv := fun w2 (hg : Ext W w2) => clone_V xr.v _ w2 (hix.1.ext hg) hsx.1
      have hci := fun w2 (hg : Ext W w2) => clone_I xr.t _ w2 (hix.2.ext hg) hsx.2
      simp only [Hd.x, Hd.y] at hcv hci
      have HV := Lib.hid hcv
      have HC := Lib.hid hci
      have HLo := Lib.hid hLo
      obtain ⟨qs, hq1, hq2, hq3⟩ := hOk
      have hqn : qs.length ≤ 1000000 := by
        have e1 : (rows qs).length = qs.length := rows_len qs
        rw [hq3, List.length_append, List.length_take] at e1
        have := HL.out; omega
      clear hcv hci hix hsx hLo
      have B0 : (wr.alloc (.cells #[.slice xa xn xc, .slice xb xm xd] 51)).cell? ⟨wr.heap.size, 0, none⟩ = some (.slice xa xn xc) := al0 _ _ _ _
      have B1 : (wr.alloc (.cells #[.slice xa xn xc, .slice xb xm xd] 51)).cell? ⟨wr.heap.size, 1, none⟩ = some (.slice xb xm xd) := al1 _ _ _ _
      have EX : Ext wr (wr.alloc (.cells #[.slice xa xn xc, .slice xb xm xd] 51)) := (Ext.refl wr).alloc _ _
      go_wp2_with fail
      generalize wr.alloc (.cells #[.slice xa xn xc, .slice xb xm xd] 51) = w0 at *
      have K0 := Lib.hid B0
      have K1 := Lib.hid B1
      have HW0 := Lib.hid (hWr.trans EX)
      have HG := Lib.hid hG
      have HQ := Lib.hid hq1
      have HQ2 := Lib.hid hq2
      have HEX := Lib.hid EX
      have HQ3 := Lib.hid hq3
      have HQN := Lib.hid hqn
      have HB := Lib.hid (fun g hg => hq1.lt g hg)
      have hb0 : wr.heap.size < w0.heap.size := World.block_lt_of_cell? _ _ B0
      clear c0 c1 hWr EX hG hq1 hq2 hq3 hqn
      go_region_held3 (fun w' => w'.cell? ⟨wr.heap.size, 0, none⟩ = some (.slice xa xn xc) ∧ w'.cell? ⟨wr.heap.size, 1, none⟩ = some (.slice xb xm xd)) (first | exact ⟨K0.out, K1.out⟩ | exact ⟨f0, f1⟩ | exact ⟨g0, g1⟩ | exact ⟨r0, r1⟩ | go_keep)
        (first | (go_at_call 57; refine (HV.out _ ?_).mono ?_; (first | exact HW0.out | exact HW0.out.drew); rintro e w3 ⟨v3, rfl, hO3⟩; obtain ⟨a3, c3, rfl, _, _⟩ := hO3.rd.shape; have e3 : Ext w0 w3 := ⟨hO3.2.1, hO3.2.2.1, hO3.2.2.2⟩; have f0 := e3.keeps K0.out; have f1 := e3.keeps K1.out; have HO3 := Lib.hid hO3; clear hO3) | (go_at_call 50; refine (HC.out _ ?_).mono ?_; (first | exact HW0.out.trans e3 | exact (HW0.out.trans e3).drew); rintro e w4 ⟨v4, rfl, hO4⟩; obtain ⟨a4, c4, rfl, _, _⟩ := hO4.rd.shape; have e4 : Ext w3 w4 := ⟨hO4.2.1, hO4.2.2.1, hO4.2.2.2⟩; have g0 := e4.keeps f0; have g1 := e4.keeps f1; have HO4 := Lib.hid hO4; clear hO4) | (refine step_appGL tP rfl _ _ rfl W _ qs rfl ?a1 _ [⟨⟨a3, xr.v.length, c3, a4, xr.t.length, c4⟩, xr⟩] rfl ?a2 ?a3 ?_; (have z1 := HQ.out.ext (HEX.out.trans (e3.trans (e4.alloc #[Value.slice a3 xr.v.length c3, Value.slice a4 xr.t.length c4] 51))); case a1 => exact z1); (have z2 := rd_litG w4 [(⟨⟨a3, xr.v.length, c3, a4, xr.t.length, c4⟩, xr⟩ : P)] #[.slice a3 xr.v.length c3, .slice a4 xr.t.length c4] 51 _ 1 rfl rfl (by simp) rfl; case a2 => exact z2); (case a3 => have := HQN.out; simp; omega); intro v5 w5 hO5 hg5 hl5; have r0 := grow_cell hg5 (((Ext.refl w4).alloc _ _).keeps g0) (fun kk hh => by have := HB.out kk hh; omega); have r1 := grow_cell hg5 (((Ext.refl w4).alloc _ _).keeps g1) (fun kk hh => by have := HB.out kk hh; omega)))
      all_goals
        have hx1 : Ext w4 (w4.alloc (.cells #[.slice a3 xr.v.length c3, .slice a4 xr.t.length c4] 51)) := (Ext.refl w4).alloc _ _
        have hp : RdRow (w4.alloc (.cells #[.slice a3 xr.v.length c3, .slice a4 xr.t.length c4] 51)) (⟨⟨a3, xr.v.length, c3, a4, xr.t.length, c4⟩, xr⟩ : P) ∧ Off tP.e W (w4.alloc (.cells #[.slice a3 xr.v.length c3, .slice a4 xr.t.length c4] 51)) (Hd.x (P.h (⟨⟨a3, xr.v.length, c3, a4, xr.t.length, c4⟩, xr⟩ : P))) ∧ Off tP.e W (w4.alloc (.cells #[.slice a3 xr.v.length c3, .slice a4 xr.t.length c4] 51)) (Hd.y (P.h (⟨⟨a3, xr.v.length, c3, a4, xr.t.length, c4⟩, xr⟩ : P))) :=
          ⟨⟨HO3.out.rd.ext (e4.trans hx1), HO4.out.rd.ext hx1⟩, (HO3.out.off (by decide)).ext (e4.trans hx1), (HO4.out.off (by decide)).ext hx1⟩
        have hEL := HEX.out.trans (e3.trans (e4.trans hx1))
        have hOR := Lib.hid (OwnR.more (HQ.out.ext hEL) (fun p hp => ⟨(HQ2.out p hp).1.ext hEL, (HQ2.out p hp).2.1.ext hEL, (HQ2.out p hp).2.2.ext hEL⟩) HQ3.out hp hO5 hg5)
        have HEL := Lib.hid hEL
        clear hEL hp hx1
        go_wp2_with fail
        go_roundw
        case rel => exact AcR.next (by rw [rows_len]; exact hlt') HE.out HG.out HLo.out HEL.out hg5 hl5 hOR.out
        case measure => simp [intOf]; omega
    · have hke : k = n := by omega
      have hall : (rows ps).take k = rows ps := by rw [List.take_of_length_le]; rw [rows_len, ← HN.out]; omega
      rw [hall] at hOk
      have HOk := Lib.hid hOk
      clear hOk hall
      go_wp2_with fail
      go_ret
      exact ⟨_, rfl, HOk.out, hG, hLo⟩
set_option maxHeartbeats 1000000 in
theorem sort_prg (ps : List P) (v : Value) (w : World) (h : RdG w v ps) (hI : RdAll w ps) (hl : ps.length ≤ 1000000) (hs : ∀ p ∈ ps, p.r.v.length ≤ 1000000 ∧ p.r.t.length ≤ 1000000) : Calls Tryz.prog 30 #[v] w fun e w' => ∃ v' qs, e = .returned v' ∧ RdG w' v' qs ∧ RdAll w' qs ∧ rows qs = sortR (rows ps) ∧ Ext w w' := by
  have H := Lib.hid h
  have HI := Lib.hid hI
  have HL := Lib.hid hl
  have HS := Lib.hid hs
  clear h hI hl hs
  go_enter Tryz.func30, Tryz.ntmps30
  go_wp2_with fail
  refine (order_prg ps v w H.out HI.out HL.out).mono ?_; rintro e w1 ⟨v1, qs, rfl, hO, hp, hr⟩
  have HO := Lib.hid hO
  have HP := Lib.hid hp
  have HR := Lib.hid hr
  have HA : RdAll w1 qs := fun q hq => (HI.out q (hp.mem_iff.1 hq)).ext hO.2
  have HA' := Lib.hid HA
  clear hO hp hr HA
  go_wp2_with fail
  refine (copies_prg w1 w1 (.slice none 0 0) [] qs v1 (OwnR.nil (Ext.refl _)) HO.out.rd HA'.out (by have := HP.out.length_eq; have := HL.out; simp; omega) (fun q hq => HS.out q (HP.out.mem_iff.1 hq))).mono ?_
  rintro e w2 ⟨v2, rfl, hO2, _, _⟩
  rw [List.nil_append, HR.out] at hO2
  have HO2 := Lib.hid hO2
  clear hO2
  go_wp2_with fail
  go_ret
  obtain ⟨rs, hr1, hr2, hr3⟩ := HO2.out.rd
  exact ⟨_, rs, rfl, hr1, hr2, hr3, HO.out.2.trans HO2.out.old⟩
end Go.Proofs.YtbplapkcleipiaaGreatDoor
/- Evaluating a query, of the program: selections, projections. -/
namespace Go.Proofs.YtbplapkcleipiaaGreatDoor
open Go.ChangeShapes Go.WideShapes Go.ChangeAt Go.RowKit

/-- a row that may stand in rows of the call's own -/
def Fine (S : Nat → Prop) (W w : World) (p : P) : Prop := (RdRow w p ∧ Off tP.e W w p.h.x ∧ Off tP.e W w p.h.y) ∧ In S p.h.x ∧ In S p.h.y
theorem Fine.ext {S : Nat → Prop} {W w w' : World} {p : P} (h : Fine S W w p) (e : Ext w w') : Fine S W w' p := ⟨⟨h.1.1.ext e, h.1.2.1.ext e, h.1.2.2.ext e⟩, h.2⟩
theorem Fine.grw {S : Nat → Prop} {W w w' : World} {p : P} {b : Option Nat} (h : Fine S W w p) (k : Grw w w' b) (hb : RowBlk tP.e W w b) : Fine S W w' p := ⟨RdRow.grw h.1 k hb, h.2⟩
theorem fine_old {S : Nat → Prop} {W w : World} {p : P} (h : RdRow W p) (hx : In S p.h.x) (hy : In S p.h.y) (e : Ext W w) : Fine S W w p := ⟨⟨h.ext e, off_old h.1, off_old h.2⟩, hx, hy⟩
/-- rows of the call's own, their parts lying off and in S -/
def OwnQ (S : Nat → Prop) (W w : World) (v : Value) (l : List R) : Prop := ∃ ps : List P, OwnG tP.e W w v ps ∧ (∀ p ∈ ps, Fine S W w p) ∧ rows ps = l
theorem OwnQ.nil (S : Nat → Prop) {W w : World} (h : Ext W w) : OwnQ S W w (.slice none 0 0) [] := ⟨[], OwnG.nil _ _ _ h, fun p hp => (by cases hp), rfl⟩
theorem OwnQ.old {S : Nat → Prop} {W w : World} {v : Value} {l : List R} (h : OwnQ S W w v l) : Ext W w := by obtain ⟨ps, h1, _⟩ := h; exact h1.2
theorem OwnQ.ext {S : Nat → Prop} {W w w' : World} {v : Value} {l : List R} (h : OwnQ S W w v l) (e : Ext w w') : OwnQ S W w' v l := by
  obtain ⟨ps, h1, h2, h3⟩ := h
  exact ⟨ps, h1.ext e, fun p hp => (h2 p hp).ext e, h3⟩
theorem OwnQ.app {S : Nat → Prop} {W w w' : World} {v v' : Value} {l : List R} {ps qs : List P} (h1 : OwnG tP.e W w v ps) (h2 : ∀ p ∈ ps, Fine S W w p) (h3 : rows ps = l) (hq : ∀ p ∈ qs, Fine S W w p)
    (ho : OwnG tP.e W w' v' (ps ++ qs)) (hg : w.grownBy w' v.ownBlock) : OwnQ S W w' v' (l ++ rows qs) := by
  refine ⟨ps ++ qs, ho, fun q hq' => ?_, by rw [rows_app, h3]⟩
  rcases List.mem_append.1 hq' with hq' | hq'
  · exact (h2 q hq').grw (grw_by hg) h1.blk
  · exact (hq q hq').grw (grw_by hg) h1.blk
theorem OwnQ.base {S : Nat → Prop} {W W' w : World} {v : Value} {l : List R} (h : OwnQ S W w v l) (hE : Ext W' W) (hU : Up S W) : ∃ v', v' = v ∧ RdR S w v' l ∧ Ext W' w := by
  obtain ⟨ps, h1, h2, h3⟩ := h
  exact ⟨v, rfl, ⟨ps, h1.rd, h1.inn hU, fun p hp => ⟨(h2 p hp).1.1, (h2 p hp).2⟩, h3⟩, hE.trans h1.2⟩
theorem OwnQ.roP {S : Nat → Prop} {W W' w : World} {v : Value} {l : List R} (h : OwnQ S W w v l) (hE : Ext W' W) (hU : Up S W) : RoP S W' l (.returned v) w := by
  obtain ⟨v', rfl, h1, h2⟩ := h.base hE hU
  exact ⟨_, rfl, h1, h2⟩
theorem OwnQ.len {S : Nat → Prop} {W w : World} {v : Value} {l : List R} (h : OwnQ S W w v l) : ∃ a c, v = .slice a l.length c := by
  obtain ⟨ps, h1, h2, rfl⟩ := h
  obtain ⟨a, c, e, _⟩ := h1.rd.shape
  exact ⟨a, c, by rw [rows_len]; exact e⟩
/-- numbers of all rows stay within 64 bits -/
def OkRs (l : List R) : Prop := ∀ r ∈ l, OkR r.v
def SeR (S : Nat → Prop) (W1 : World) (es : List X) (p : Int) (l : List R) (v i : Value) (wr : World) : Prop := ∃ k : Nat, k ≤ l.length ∧ i = .int .i64 k ∧ OwnQ S W1 wr v (selL es p (l.take k))
theorem sel_step (es : List X) (p : Int) (l : List R) (k : Nat) (h : k < l.length) : selL es p (l.take (k + 1)) = selL es p (l.take k) ++ if hldB es p l[k].v = true then [l[k]] else [] := by
  unfold selL
  rw [List.take_succ_eq_append_getElem h, List.filter_append, List.filter_cons]
  rfl
theorem sel_len (es : List X) (p : Int) (l : List R) : (selL es p l).length ≤ l.length := List.length_filter_le _ _
set_option maxHeartbeats 4000000 in
set_option maxRecDepth 100000 in
theorem sel_prg (S : Nat → Prop) (es : List X) (p : Int) (l : List R) (a2 a3 a4 : Option Addr) (n2 n3 n4 c2 c3 c4 : Nat) (ve vr : Value) (w : World) (hl : RdG w ve es) (hr : RdR S w vr l) (hU : Up S w) (hs : es.length ≤ 1000) (hx : OkX es) (ho : OkRs l) (hll : l.length ≤ 1000000) :
    Calls Tryz.prog 66 #[eaV ve (.slice a2 n2 c2) (.slice a3 n3 c3) (.slice a4 n4 c4), .int .i64 p, vr] w (RoP S w (selL es p l)) := by
  have HH := Lib.hid (fun (row : List V) vv w' (hE : Ext w w') (hr : RdG w' vv row) (ho : OkR row) => holds_prg es p row a2 a3 a4 n2 n3 n4 c2 c3 c4 ve vv w' (hl.ext hE) hr hs hx ho)
  obtain ⟨ad, cap, rfl, _, _⟩ := hl.shape
  obtain ⟨ps, h1, h2, h3, rfl⟩ := hr
  obtain ⟨bd, bcap, rfl, b1, b2⟩ := h1.shape
  have HP := Lib.hid h1
  have HF := Lib.hid h3
  have HU := Lib.hid hU
  have HO := Lib.hid ho
  have HLL := Lib.hid hll
  clear hl h1 h2 h3 hs hx ho hU hll
  obtain ⟨n, hn⟩ : ∃ n, n = es.length := ⟨_, rfl⟩
  obtain ⟨t, ht⟩ : ∃ t, t = ps.length := ⟨_, rfl⟩
  have HT := Lib.hid ht
  rw [← hn] at HH ⊢
  rw [← ht] at HP b1 ⊢
  clear hn ht
  unfold maxLen at b2
  obtain ⟨W1, hW⟩ : ∃ W1, W1 = w.alloc (.cells #[.slice ad n cap, .slice a2 n2 c2, .slice a3 n3 c3, .slice a4 n4 c4] 111) := ⟨_, rfl⟩
  have HW := Lib.hid (show Ext w W1 by rw [hW]; exact (Ext.refl _).alloc _ _)
  have HBX := Lib.hid (show Bxn w.heap.size [.slice ad n cap, .slice a2 n2 c2, .slice a3 n3 c3, .slice a4 n4 c4] W1 by rw [hW]; exact Bxn.new w _ _)
  have hW' := Lib.hid hW
  clear hW
  go_enter Tryz.func66, Tryz.ntmps66
  go_wp2_with fail
  go_loopw [7, 12] (SeR S W1 es p (rows ps)) (fun _ i _ => t - (intOf i).toNat)
  case atStart => exact ⟨0, Nat.zero_le _, rfl, by rw [← hW'.out]; exact OwnQ.nil S (Ext.refl _)⟩
  case round =>
    obtain ⟨k, hk, rfl, hO⟩ := hrel
    rw [rows_len] at hk
    have hkt : k ≤ t := by rw [HT.out]; exact hk
    have hEw := Lib.hid (HW.out.trans hO.old)
    have hbx := HBX.out.ext hO.old
    have k0 := (hbx.2 0 _ rfl).1
    have k1 := (hbx.2 1 _ rfl).1
    have k2 := (hbx.2 2 _ rfl).1
    have k3 := (hbx.2 3 _ rfl).1
    have s0 := hbx.1
    clear hbx
    by_cases hlt : k < t
    · have hlt' : k < ps.length := by rw [← HT.out]; exact hlt
      have hlr : k < (rows ps).length := by rw [rows_len]; exact hlt'
      obtain ⟨g, o, rfl, d0', d1'⟩ := rd_P HP.out k hlt'
      have d0 := hEw.out.keeps d0'
      have d1 := hEw.out.keeps d1'
      clear d0' d1'
      have hst := sel_step es p (rows ps) k hlr
      rw [rows_at ps k hlt'] at hst
      have hfi := HF.out ps[k] (List.getElem_mem _)
      have hok := HO.out ps[k].r (List.mem_map_of_mem (List.getElem_mem _))
      have hpl : (selL es p ((rows ps).take k)).length ≤ 1000000 := Nat.le_trans (sel_len _ _ _) (by rw [List.length_take]; have := HLL.out; omega)
      generalize ps[k] = x at *
      obtain ⟨⟨xa, xn, xc, xb, xm, xd⟩, xr⟩ := x
      simp only [Hd.x, Hd.y] at d0 d1 hfi hst hok
      have hfin : Fine S W1 wr (⟨⟨xa, xn, xc, xb, xm, xd⟩, xr⟩ : P) := (fine_old (hfi.1.ext HW.out) hfi.2.1 hfi.2.2 hO.old)
      have HHH := Lib.hid (fun w' (hE : Ext w w') => HH.out xr.v _ w' hE (hfi.1.1.ext hE) hok)
      simp only [Hd.x] at HHH
      have HFI := Lib.hid hfin
      have HO := Lib.hid hO
      have HPL := Lib.hid hpl
      clear hfi hok hO hpl hfin
      generalize selL es p ((rows ps).take k) = pre at *
      cases hb : hldB es p xr.v with
      | true =>
        rw [hb, if_pos rfl] at hst
        rw [hb] at HHH
        have HST := Lib.hid hst
        have HL := Lib.hid hlt'
        clear hst hb
        obtain ⟨qs, hq1, hq2, hq3⟩ := HO.out
        have hql : qs.length ≤ 1000000 := by have e := rows_len qs; rw [hq3] at e; have := HPL.out; omega
        have HQ1 := Lib.hid hq1
        have HQ2 := Lib.hid hq2
        have HQ3 := Lib.hid hq3
        have HQL := Lib.hid hql
        clear hq1 hq2 hq3 hql
        go_wp2_with fail
        refine (HHH.out _ (hEw.out.alloc _ _)).mono ?_; rintro e w2 ⟨rfl, hE⟩
        have hE2 := ((Ext.refl wr).alloc #[.slice xa xn xc, .slice xb xm xd] 51).trans hE
        have m0 := hE.keeps (al0 wr (.slice xa xn xc) (.slice xb xm xd) 51)
        have m1 := hE.keeps (al1 wr (.slice xa xn xc) (.slice xb xm xd) 51)
        have ms : wr.heap.size < w2.heap.size := World.block_lt_of_cell? _ _ m0
        have HE2 := Lib.hid hE2
        clear hE hE2
        go_wp2_with (at_builtin; refine appG tP rfl _ _ rfl W1 _ qs rfl (HQ1.out.ext (HE2.out.alloc _ _)) _ [⟨⟨xa, xn, xc, xb, xm, xd⟩, xr⟩] rfl (rd_litG w2 [(⟨⟨xa, xn, xc, xb, xm, xd⟩, xr⟩ : P)] #[.slice xa xn xc, .slice xb xm xd] 51 _ 1 rfl rfl (by simp) rfl) (by have := HQL.out; simp; omega) ?_; intro v' w' hO' hg')
        go_roundw
        case rel =>
          refine ⟨k + 1, by rw [rows_len]; exact HL.out, by go_num, ?_⟩
          rw [HST.out]
          exact OwnQ.app (HQ1.out.ext (HE2.out.alloc _ _)) (fun p hp => (HQ2.out p hp).ext (HE2.out.alloc _ _)) HQ3.out (fun p hp => by simp only [List.mem_singleton] at hp; subst hp; exact HFI.out.ext (HE2.out.alloc _ _)) hO' hg'
        case measure => simp [intOf]; omega
      | false =>
        rw [hb, if_neg (by simp), List.append_nil] at hst
        rw [hb] at HHH
        have HST := Lib.hid hst
        have HL := Lib.hid hlt'
        clear hst hb
        go_wp2_with fail
        refine (HHH.out _ (hEw.out.alloc _ _)).mono ?_; rintro e w2 ⟨rfl, hE⟩
        go_wp2_with fail
        go_roundw
        case rel => exact ⟨k + 1, by rw [rows_len]; exact HL.out, by go_num, by rw [HST.out]; exact HO.out.ext (((Ext.refl wr).alloc _ _).trans hE)⟩
        case measure => simp [intOf]; omega
    · have hke : (rows ps).take k = rows ps := List.take_of_length_le (by rw [rows_len]; have := HT.out; omega)
      rw [hke] at hO
      have HO := Lib.hid hO
      clear hke hO
      go_wp2_with fail
      go_ret
      exact HO.out.roP HW.out (HU.out.ext HW.out)
end Go.Proofs.YtbplapkcleipiaaGreatDoor
