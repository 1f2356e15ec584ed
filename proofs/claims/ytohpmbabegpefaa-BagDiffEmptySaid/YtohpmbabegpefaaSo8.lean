/- The program's inOrder: a clone, sorted by the library's contract. -/
import Derived.Test.YtohpmbabegpefaaCl8
import Derived.Test.YtohpmbabegpefaaShG8
import Derived.Shelf.SlSortCmp.NoneTotal
namespace Go.Proofs.Ytohpmbabegpefaa
open Go.ChangeShapes Go.WideShapes Go.ChangeAt Go.RowKit Go.Shelf Go.Lib Go.Sort

/-- rows that can be read in a world -/
abbrev Sb (W : World) := { p : P // RdRow W p }
instance (W : World) : Inhabited (Sb W) := ⟨⟨default, ⟨rdG_nil _, rdG_nil _⟩⟩⟩
def encS {W : World} (x : Sb W) : List Value := Enc.cells x.1
def cfS {W : World} (x y : Sb W) : Int := cmpW x.1.r y.1.r
theorem ltS {W : World} (x y : Sb W) : ltOf cfS x y = decide (cmpW x.1.r y.1.r < 0) := rfl
theorem swoS (W : World) : SWO (ltOf (cfS (W := W))) where
  irrefl x := by
    rw [ltS]
    have := (cw_ord.zero x.1.r x.1.r).2 rfl
    simp [this]
  trans x y z h1 h2 := by
    rw [ltS] at *
    simp only [decide_eq_true_eq] at *
    have a := cw_ord.vals x.1.r y.1.r
    have b := cw_ord.vals y.1.r z.1.r
    have := cw_ord.trans x.1.r y.1.r z.1.r (by omega) (by omega)
    omega
  ntrans x y z h1 h2 := by
    rw [ltS] at *
    simp only [decide_eq_false_iff_not, Int.not_lt] at *
    have a := cw_ord.swap x.1.r y.1.r
    have b := cw_ord.swap y.1.r z.1.r
    have c := cw_ord.swap x.1.r z.1.r
    have := cw_ord.le_trans (a := z.1.r) (b := y.1.r) (d := x.1.r) (by omega) (by omega)
    omega
theorem flatS {W : World} (L : List (Sb W)) : flatK encS 2 L.toArray = (cellsG (L.map Subtype.val)).toArray := by
  have hs : Enc.sz P = 2 := rfl
  refine ext_get! (by simp [cellsG_len, hs]) fun t ht => ?_
  have ht' : t < L.length * 2 := by simpa using ht
  rw [get_flatK _ _ _ t (by simpa using ht')]
  have hd : t / 2 < L.length := by omega
  have hx := cellsG_at (L.map Subtype.val) (t / 2) (t % 2) (by simpa using hd) (Nat.mod_lt _ (by decide))
  have e : t / 2 * 2 + t % 2 = t := Nat.div_add_mod' t 2
  rw [show t / 2 * Enc.sz P + t % 2 = t from e] at hx
  have hl : t < (cellsG (L.map Subtype.val)).length := by rw [cellsG_len, hs]; simpa using ht'
  rw [List.getElem?_eq_getElem hl] at hx
  rw [getElem!_pos L.toArray (t / 2) (by simpa using hd), getElem!_pos (cellsG (L.map Subtype.val)).toArray t (by simpa using hl)]
  simp only [List.getElem_toArray]
  have h2 := hx.symm
  simp only [List.getElem_map] at h2
  unfold encS
  rw [List.getElem!_eq_getElem?_getD, h2]; rfl
theorem holdsS {W W0 w : World} {g cap : Nat} {L : List (Sb W0)} (h : OwnG tP.e W w (.slice (some ⟨g, 0, none⟩) L.length cap) (L.map Subtype.val)) : HoldsK encS 2 w g 0 L.toArray := by
  unfold HoldsK
  rw [flatS]
  intro j hj
  have hs : Enc.sz P = 2 := rfl
  have hj' : j < (cellsG (L.map Subtype.val)).length := by simpa using hj
  have ho := h.1
  rw [List.length_map] at ho
  refine ⟨?_, by rw [Nat.zero_add]; exact ho.frozenAt j⟩
  rw [Nat.zero_add, ho.cellAt j (by rw [cellsG_len, List.length_map] at hj'; exact hj'), List.getElem?_eq_getElem hj', getElem!_pos (cellsG (L.map Subtype.val)).toArray j (by simpa using hj')]
  simp
theorem own_sortedS {W W0 w : World} {g cap n0 : Nat} {l : List P} (h : OwnG tP.e W w (.slice (some ⟨g, 0, none⟩) n0 cap) l) (L : List (Sb W0)) (hl : L.length = n0) (n : Nat) (os : Array Obj) :
    OwnG tP.e W (sortWorldK encS 2 w g 0 n L.toArray os) (.slice (some ⟨g, 0, none⟩) n0 cap) (L.map Subtype.val) := by
  have ho := h.1
  have hs2 : Enc.sz P = 2 := rfl
  have hn0 := owns_len ho
  simp only [lenOf] at hn0
  rcases ho.2 with ⟨h', _⟩ | ⟨g', cap', cur, h', hb, hg, hnc, hcm, hcs, htake⟩
  · simp at h'
  · simp only [Value.slice.injEq, Option.some.injEq, Addr.mk.injEq, and_true] at h'
    obtain ⟨rfl, hnn, rfl⟩ := h'
    have hlt : g < w.heap.size := (Array.getElem?_eq_some_iff.1 hg).1
    have hgrow : w.grownBy (sortWorldK encS 2 w g 0 n L.toArray os) (some g) := by
      refine ⟨rfl, rfl, rfl, ?_, fun k hk hne => ?_⟩
      · show w.heap.size ≤ ((w.heap.modify g _) ++ os).size
        simp
      · show ((w.heap.modify g _) ++ os)[k]? = _
        rw [Array.getElem?_append_left (by simpa using hk), Array.getElem?_modify, if_neg (fun e => hne (by rw [e]))]
    refine h.grow hgrow ⟨by rw [cellsG_len], .inr ⟨g, cap, putCells id 0 (cellsG (L.map Subtype.val)).toArray cur, by rw [List.length_map, hl], hb, ?_, by rw [List.length_map, hl, hnn]; exact hnc, hcm, by simp [putCells, hcs], ?_⟩⟩
    · show ((w.heap.modify g _) ++ os)[g]? = _
      rw [Array.getElem?_append_left (by simpa using hlt), Array.getElem?_modify, if_pos rfl, hg, flatS]
      rfl
    · have hs : (L.map Subtype.val).length * Enc.sz P ≤ cur.size := by rw [hcs, List.length_map, hl, hnn]; exact Nat.mul_le_mul_right _ hnc
      apply List.ext_getElem?
      intro j
      rw [List.getElem?_take]
      by_cases hj : j < (L.map Subtype.val).length * Enc.sz P
      · rw [if_pos hj]
        have hj' : j < (cellsG (L.map Subtype.val)).length := by rw [cellsG_len]; exact hj
        rw [Array.getElem?_toList, putCells, Array.getElem?_mapIdx, Array.getElem?_eq_getElem (by omega), Option.map_some, if_pos ⟨Nat.zero_le _, by simpa using hj'⟩, List.getElem?_eq_getElem hj', Nat.sub_zero, getElem!_pos (cellsG (L.map Subtype.val)).toArray j (by simpa using hj')]
        simp
      · rw [if_neg hj, List.getElem?_eq_none (by rw [cellsG_len]; omega)]
/-- the rows with what is known of them -/
theorem lift_all {W : World} {ps : List P} (h : RdAll W ps) : ∃ L : List (Sb W), L.map Subtype.val = ps := by
  induction ps with
  | nil => exact ⟨[], rfl⟩
  | cons p ps ih =>
    obtain ⟨L, hL⟩ := ih fun q hq => h q (by simp [hq])
    exact ⟨⟨p, h p (by simp)⟩ :: L, by rw [List.map_cons, hL]⟩
theorem sort_rows (W w : World) (v : Value) (ps : List P) (hO : OwnG tP.e W w v ps) (hI : RdAll W ps) (hlen : ps.length ≤ 1000000) :
    Calls Try.prog 41 #[v, .func (.func 29) #[] #[]] w fun e w' => e = .returned (.tuple #[]) ∧ ∃ qs, qs.Perm ps ∧ Srtd (rows qs) ∧ OwnG tP.e W w' v qs := by
  obtain ⟨L, hL⟩ := lift_all hI
  have hLl : L.length = ps.length := by rw [← hL, List.length_map]
  rcases hO.1.2 with ⟨rfl, h0⟩ | ⟨g, cap, cur, rfl, hb, hg, hnc, hcm, hcs, htake⟩
  · have := AnyF.slices_SortFunc_none Try.sortW none 0 (.func (.func 29) #[] #[]) w
    refine this.mono ?_
    rintro e w' ⟨rfl, rfl⟩
    obtain rfl : ps = [] := List.eq_nil_of_length_eq_zero h0
    exact ⟨rfl, [], List.Perm.refl _, List.Pairwise.nil, hO⟩
  · have hlt : g < w.heap.size := (Array.getElem?_eq_some_iff.1 hg).1
    have eg : ∀ args w, (callFunc 29 args).run Try.prog w = .ok (.enter 29 args) w := enters_of Try.func29 (by kernel_rfl) rfl
    have hcmp : CmpLays Try.prog 29 #[] (encS (W := W)) 2 cfS g 0 L.toArray.size w := by
      intro m os dk hs x y
      have hE := (own_sortedS (W0 := W) hO dk.toList (by simpa [hLl] using hs) m os).2
      exact comp_gw x.1.r y.1.r _ _ _ _ _ (x.2.1.ext hE) (x.2.2.ext hE) (y.2.1.ext hE) (y.2.2.ext hE)
    have hcon := AnyQ.slices_SortFunc Try.sortW 2 Try.isAgg32 Try.sizeOf32 (encS (W := W)) (fun _ => rfl) (fun x v hv => Enc.one x.1 v hv) cfS (swoS W) 29 #[] g 0 cap L.toArray w eg
      hcmp (holdsS (by rw [hL, hLl]; exact hO)) hlt (by simp [hLl]; omega)
    change Calls Try.prog 41 _ _ _ at hcon
    rw [List.size_toArray, hLl] at hcon
    refine hcon.mono ?_
    rintro e w' ⟨rfl, d', n, os, ⟨hsz, _, hp⟩, hs, rfl⟩
    have hsz' : d'.toList.length = ps.length := by simpa [hLl] using hsz
    refine ⟨rfl, d'.toList.map Subtype.val, ?_, ?_, ?_⟩
    · have e1 : (d'.extract 0 ps.length) = d' := by rw [← hsz', Array.length_toList]; simp
      have e2 : (L.toArray.extract 0 ps.length) = L.toArray := by rw [← hLl]; simp
      rw [e1, e2] at hp
      have hp2 : d'.toList.Perm L := by simpa using hp
      rw [← hL]
      exact hp2.map _
    · unfold Srtd rows
      rw [List.map_map, List.pairwise_map, List.pairwise_iff_getElem]
      intro i j hi hj hij
      have hj2 : j < d'.size := by simpa using hj
      have hi2 : i < d'.size := by omega
      have := hs i j (Nat.zero_le _) hij (by omega)
      rw [ltS, getElem!_pos d' j hj2, getElem!_pos d' i hi2] at this
      simp only [decide_eq_false_iff_not, Int.not_lt] at this
      have hsw := cw_ord.swap d'[i].1.r d'[j].1.r
      simp only [Function.comp, Array.getElem_toList]
      omega
    · have := own_sortedS (W0 := W) hO d'.toList hsz' n os
      simpa using this
/-- what inOrder returns -/
def OrP (w : World) (ps : List P) (e : Ending) (w' : World) : Prop := ∃ v' qs, e = .returned v' ∧ OwnG tP.e w w' v' qs ∧ qs.Perm ps ∧ rows qs = sortR (rows ps)
set_option maxHeartbeats 1000000 in
theorem order_prg (ps : List P) (v : Value) (w : World) (h : RdG w v ps) (hI : RdAll w ps) (hl : ps.length ≤ 1000000) : Calls Try.prog 26 #[v] w (OrP w ps) := by
  have H := Lib.hid h
  have HI := Lib.hid hI
  have HL := Lib.hid hl
  clear h hI hl
  go_enter Try.func26, Try.ntmps26
  go_wp2_with fail
  refine (clone_P ps v w H.out HL.out).mono ?_; rintro e w1 ⟨v1, rfl, hO⟩
  have HO := Lib.hid hO
  clear hO
  go_wp2_with fail
  refine (sort_rows w w1 v1 ps HO.out HI.out HL.out).mono ?_; rintro e w2 ⟨rfl, qs, hp, hs, hO2⟩
  have HR := Lib.hid (sortR_of (hp.map P.r) hs)
  have HO2 := Lib.hid hO2
  have HP := Lib.hid hp
  clear hp hs hO2
  go_wp2_with fail
  go_ret
  exact ⟨_, qs, rfl, HO2.out, HP.out, HR.out⟩
end Go.Proofs.Ytohpmbabegpefaa
