/- The program's sort of tuples, by the library's contract. -/
import Derived.Shelf.SlSortCmp.NoneTotal
import Derived.Test.YtnckdopphimgoaaZz21
import Derived.Test.YtnckdopphimgoaaZz29
namespace Go.Proofs.Ytnckdopphimgoaa
open Go.ChangeShapes Go.WideShapes Go.ChangeAt Go.RowKit Go.Shelf Go.Lib Go.Sort

/-- tuples that can be read in a world -/
abbrev St (W : World) := { p : TP // RdT W p }
instance (W : World) : Inhabited (St W) := ⟨⟨default, ⟨rdG_nil _, rdG_nil _⟩⟩⟩
def encT {W : World} (x : St W) : List Value := Enc.cells x.1
def cfT {W : World} (x y : St W) : Int := cmpW x.1.r y.1.r
theorem ltT {W : World} (x y : St W) : ltOf cfT x y = decide (cmpW x.1.r y.1.r < 0) := rfl
theorem swoT (W : World) : SWO (ltOf (cfT (W := W))) where
  irrefl x := by
    rw [ltT]
    have := (cw_ord.zero x.1.r x.1.r).2 rfl
    simp [this]
  trans x y z h1 h2 := by
    rw [ltT] at *
    simp only [decide_eq_true_eq] at *
    have a := cw_ord.vals x.1.r y.1.r
    have b := cw_ord.vals y.1.r z.1.r
    have := cw_ord.trans x.1.r y.1.r z.1.r (by omega) (by omega)
    omega
  ntrans x y z h1 h2 := by
    rw [ltT] at *
    simp only [decide_eq_false_iff_not, Int.not_lt] at *
    have a := cw_ord.swap x.1.r y.1.r
    have b := cw_ord.swap y.1.r z.1.r
    have c := cw_ord.swap x.1.r z.1.r
    have := cw_ord.le_trans (a := z.1.r) (b := y.1.r) (d := x.1.r) (by omega) (by omega)
    omega
theorem flatT {W : World} (L : List (St W)) : flatK encT 4 L.toArray = (cellsG (L.map Subtype.val)).toArray := by
  have hs : Enc.sz TP = 4 := rfl
  refine ext_get! (by simp [cellsG_len, hs]) fun t ht => ?_
  have ht' : t < L.length * 4 := by simpa using ht
  rw [get_flatK _ _ _ t (by simpa using ht')]
  have hd : t / 4 < L.length := by omega
  have hx := cellsG_at (L.map Subtype.val) (t / 4) (t % 4) (by simpa using hd) (Nat.mod_lt _ (by decide))
  have e : t / 4 * 4 + t % 4 = t := Nat.div_add_mod' t 4
  rw [show t / 4 * Enc.sz TP + t % 4 = t from e] at hx
  have hl : t < (cellsG (L.map Subtype.val)).length := by rw [cellsG_len, hs]; simpa using ht'
  rw [List.getElem?_eq_getElem hl] at hx
  rw [getElem!_pos L.toArray (t / 4) (by simpa using hd), getElem!_pos (cellsG (L.map Subtype.val)).toArray t (by simpa using hl)]
  simp only [List.getElem_toArray]
  have h2 := hx.symm
  simp only [List.getElem_map] at h2
  unfold encT
  rw [List.getElem!_eq_getElem?_getD, h2]; rfl
theorem holdsT {W W0 w : World} {g cap : Nat} {L : List (St W0)} (h : OwnG tT.e W w (.slice (some ⟨g, 0, none⟩) L.length cap) (L.map Subtype.val)) : HoldsK encT 4 w g 0 L.toArray := by
  unfold HoldsK
  rw [flatT]
  intro j hj
  have hs : Enc.sz TP = 4 := rfl
  have hj' : j < (cellsG (L.map Subtype.val)).length := by simpa using hj
  have ho := h.1
  rw [List.length_map] at ho
  refine ⟨?_, by rw [Nat.zero_add]; exact ho.frozenAt j⟩
  rw [Nat.zero_add, ho.cellAt j (by rw [cellsG_len, List.length_map] at hj'; exact hj'), List.getElem?_eq_getElem hj', getElem!_pos (cellsG (L.map Subtype.val)).toArray j (by simpa using hj')]
  simp
theorem own_sortedT {W W0 w : World} {g cap n0 : Nat} {l : List TP} (h : OwnG tT.e W w (.slice (some ⟨g, 0, none⟩) n0 cap) l) (L : List (St W0)) (hl : L.length = n0) (n : Nat) (os : Array Obj) :
    OwnG tT.e W (sortWorldK encT 4 w g 0 n L.toArray os) (.slice (some ⟨g, 0, none⟩) n0 cap) (L.map Subtype.val) := by
  have ho := h.1
  have hs2 : Enc.sz TP = 4 := rfl
  have hn0 := owns_len ho
  simp only [lenOf] at hn0
  rcases ho.2 with ⟨h', _⟩ | ⟨g', cap', cur, h', hb, hg, hnc, hcm, hcs, htake⟩
  · simp at h'
  · simp only [Value.slice.injEq, Option.some.injEq, Addr.mk.injEq, and_true] at h'
    obtain ⟨rfl, hnn, rfl⟩ := h'
    have hlt : g < w.heap.size := (Array.getElem?_eq_some_iff.1 hg).1
    have hgrow : w.grownBy (sortWorldK encT 4 w g 0 n L.toArray os) (some g) := by
      refine ⟨rfl, rfl, rfl, ?_, fun k hk hne => ?_⟩
      · show w.heap.size ≤ ((w.heap.modify g _) ++ os).size
        simp
      · show ((w.heap.modify g _) ++ os)[k]? = _
        rw [Array.getElem?_append_left (by simpa using hk), Array.getElem?_modify, if_neg (fun e => hne (by rw [e]))]
    refine h.grow hgrow ⟨by rw [cellsG_len], .inr ⟨g, cap, putCells id 0 (cellsG (L.map Subtype.val)).toArray cur, by rw [List.length_map, hl], hb, ?_, by rw [List.length_map, hl, hnn]; exact hnc, hcm, by simp [putCells, hcs], ?_⟩⟩
    · show ((w.heap.modify g _) ++ os)[g]? = _
      rw [Array.getElem?_append_left (by simpa using hlt), Array.getElem?_modify, if_pos rfl, hg, flatT]
      rfl
    · have hs : (L.map Subtype.val).length * Enc.sz TP ≤ cur.size := by rw [hcs, List.length_map, hl, hnn]; exact Nat.mul_le_mul_right _ hnc
      apply List.ext_getElem?
      intro j
      rw [List.getElem?_take]
      by_cases hj : j < (L.map Subtype.val).length * Enc.sz TP
      · rw [if_pos hj]
        have hj' : j < (cellsG (L.map Subtype.val)).length := by rw [cellsG_len]; exact hj
        rw [Array.getElem?_toList, putCells, Array.getElem?_mapIdx, Array.getElem?_eq_getElem (by omega), Option.map_some, if_pos ⟨Nat.zero_le _, by simpa using hj'⟩, List.getElem?_eq_getElem hj', Nat.sub_zero, getElem!_pos (cellsG (L.map Subtype.val)).toArray j (by simpa using hj')]
        simp
      · rw [if_neg hj, List.getElem?_eq_none (by rw [cellsG_len]; omega)]
/-- the rows with what is known of them -/
theorem lift_allT {W : World} {ps : List TP} (h : RdTs W ps) : ∃ L : List (St W), L.map Subtype.val = ps := by
  induction ps with
  | nil => exact ⟨[], rfl⟩
  | cons p ps ih =>
    obtain ⟨L, hL⟩ := ih fun q hq => h q (by simp [hq])
    exact ⟨⟨p, h p (by simp)⟩ :: L, by rw [List.map_cons, hL]⟩
theorem sort_tuples (W w : World) (v : Value) (ps : List TP) (hO : OwnG tT.e W w v ps) (hI : RdTs W ps) (hlen : ps.length ≤ 1000000) :
    Calls Try.prog 26 #[v, .func (.func 27) #[] #[]] w fun e w' => e = .returned (.tuple #[]) ∧ ∃ qs, qs.Perm ps ∧ qs.Pairwise (fun x y => cmpW x.r y.r ≤ 0) ∧ OwnG tT.e W w' v qs := by
  obtain ⟨L, hL⟩ := lift_allT hI
  have hLl : L.length = ps.length := by rw [← hL, List.length_map]
  rcases hO.1.2 with ⟨rfl, h0⟩ | ⟨g, cap, cur, rfl, hb, hg, hnc, hcm, hcs, htake⟩
  · have := AnyF.slices_SortFunc_none Try.sortT none 0 (.func (.func 27) #[] #[]) w
    refine this.mono ?_
    rintro e w' ⟨rfl, rfl⟩
    obtain rfl : ps = [] := List.eq_nil_of_length_eq_zero h0
    exact ⟨rfl, [], List.Perm.refl _, List.Pairwise.nil, hO⟩
  · have hlt : g < w.heap.size := (Array.getElem?_eq_some_iff.1 hg).1
    have eg : ∀ args w, (callFunc 27 args).run Try.prog w = .ok (.enter 27 args) w := enters_of Try.func27 (by kernel_rfl) rfl
    have hcmp : CmpLays Try.prog 27 #[] (encT (W := W)) 4 cfT g 0 L.toArray.size w := by
      intro m os dk hs x y
      have hE := (own_sortedT (W0 := W) hO dk.toList (by simpa [hLl] using hs) m os).2
      exact compT_gw x.1 y.1 _ (x.2.ext hE) (y.2.ext hE)
    have hcon := AnyQ.slices_SortFunc Try.sortT 4 Try.isAgg31 Try.sizeOf31 (encT (W := W)) (fun _ => rfl) (fun x v hv => Enc.one x.1 v hv) cfT (swoT W) 27 #[] g 0 cap L.toArray w eg
      hcmp (holdsT (by rw [hL, hLl]; exact hO)) hlt (by simp [hLl]; omega)
    change Calls Try.prog 26 _ _ _ at hcon
    rw [List.size_toArray, hLl] at hcon
    refine hcon.mono ?_
    rintro e w' ⟨rfl, d', n, os, ⟨hsz, _, hp⟩, hs, rfl⟩
    have hsz' : d'.toList.length = ps.length := by simpa [hLl] using hsz
    refine ⟨rfl, d'.toList.map Subtype.val, ?_, ?_, ?_⟩
    · have e1 : (d'.extract 0 ps.length) = d' := by rw [← hsz', Array.length_toList]; simp
      have e2 : (L.toArray.extract 0 ps.length) = L.toArray := by rw [← hLl]; simp
      rw [e1, e2] at hp
      have hp2 : d'.toList.Perm L := by simpa using hp
      rw [← hL]
      exact hp2.map _
    · rw [List.pairwise_map, List.pairwise_iff_getElem]
      intro i j hi hj hij
      have hj2 : j < d'.size := by simpa using hj
      have hi2 : i < d'.size := by omega
      have := hs i j (Nat.zero_le _) hij (by omega)
      rw [ltT, getElem!_pos d' j hj2, getElem!_pos d' i hi2] at this
      simp only [decide_eq_false_iff_not, Int.not_lt] at this
      have hsw := cw_ord.swap d'[i].1.r d'[j].1.r
      simp only [Array.getElem_toList]
      omega
    · have := own_sortedT (W0 := W) hO d'.toList hsz' n os
      simpa using this
end Go.Proofs.Ytnckdopphimgoaa
