/- Periods «as» elements; the program's sort of periods, by the library's contract. -/
import Derived.Shelf.SlSortCmp.NoneTotal
import Derived.Test.YtnckdopphimgoaaZz13
import Derived.Test.YtnckdopphimgoaaZz21
import Derived.Test.YtnckdopphimgoaaZz26
namespace Go.Proofs.Ytnckdopphimgoaa
open Go.ChangeShapes Go.WideShapes Go.ChangeAt Go.RowKit Go.Shelf Go.Lib Go.Sort

instance : Enc (Int × Int) := ⟨2, by decide, fun p => [.int .i64 p.1, .int .i64 p.2], fun _ => rfl, fun a u h => by simp at h; rcases h with rfl | rfl <;> rfl⟩
def tPe : RowT (Int × Int) := ⟨28, 58, (0, 0), .agg #[.int .i64 0, .int .i64 0], 16, Try.underlying58, by kernel_rfl, by rfl, by decide⟩
theorem own_per {W w : World} {v : Value} {l : List (Int × Int)} : Own W w v l ↔ OwnG tPe.e W w v l := Iff.rfl
theorem rd_per {w : World} {v : Value} {l : List (Int × Int)} (h : Rd w v l) : RdG w v l := by
  obtain ⟨ad, cap, rfl, h1, h2, h3, h4⟩ := h
  refine ⟨ad, cap, rfl, h1, h2, h3, fun i hi => ?_⟩
  obtain ⟨g, o, rfl, c0, c1⟩ := h4 i hi
  refine ⟨g, o, rfl, fun j u hj => ?_⟩
  match j, hj with
  | 0, hj => simp [Enc.cells] at hj; subst hj; exact c0
  | 1, hj => simp [Enc.cells] at hj; subst hj; exact c1
theorem per_rd {w : World} {v : Value} {l : List (Int × Int)} (h : RdG w v l) : Rd w v l := by
  obtain ⟨ad, cap, rfl, h1, h2, h3, h4⟩ := h
  refine ⟨ad, cap, rfl, h1, h2, h3, fun i hi => ?_⟩
  obtain ⟨g, o, rfl, c⟩ := h4 i hi
  exact ⟨g, o, rfl, c 0 _ rfl, c 1 _ rfl⟩
def encP (x : Int × Int) : List Value := [.int .i64 x.1, .int .i64 x.2]
theorem cmpP2_lt (x y : Int × Int) : decide (cmpP2 x y < 0) = decide (x.1 < y.1 ∨ (x.1 = y.1 ∧ x.2 < y.2)) := by
  unfold cmpP2 or2 Lib.compareInt
  rw [Bool.eq_iff_iff]
  simp only [decide_eq_true_eq]
  repeat' split
  all_goals omega
theorem ltP (x y : Int × Int) : ltOf cmpP2 x y = decide (x.1 < y.1 ∨ (x.1 = y.1 ∧ x.2 < y.2)) := cmpP2_lt x y
theorem swoP : SWO (ltOf cmpP2) where
  irrefl x := by rw [ltP]; simp
  trans x y z h1 h2 := by rw [ltP] at *; simp only [decide_eq_true_eq] at *; omega
  ntrans x y z h1 h2 := by rw [ltP] at *; simp only [decide_eq_false_iff_not] at *; omega
theorem flatP (l : List (Int × Int)) : flatK encP 2 l.toArray = (cellsL l).toArray := by
  refine ext_get! (by simp [cellsL_len]) fun t ht => ?_
  have ht' : t < l.length * 2 := by simpa using ht
  rw [get_flatK _ _ _ t (by simpa using ht')]
  have hx := cellsL_at l (t / 2) (by omega)
  rw [getElem!_pos l.toArray (t / 2) (by simp; omega), getElem!_pos (cellsL l).toArray t (by simp [cellsL_len]; omega)]
  simp only [List.getElem_toArray]
  have hl : t < (cellsL l).length := by rw [cellsL_len]; exact ht'
  rcases Nat.mod_two_eq_zero_or_one t with m | m
  · have h1 := hx.1
    rw [show t / 2 * 2 = t by omega, List.getElem?_eq_getElem hl] at h1
    rw [m, Option.some.inj h1]; rfl
  · have h1 := hx.2
    rw [show t / 2 * 2 + 1 = t by omega, List.getElem?_eq_getElem hl] at h1
    rw [m, Option.some.inj h1]; rfl
theorem holdsP {W w : World} {g cap : Nat} {l : List (Int × Int)} (h : Own W w (.slice (some ⟨g, 0, none⟩) l.length cap) l) : HoldsK encP 2 w g 0 l.toArray := by
  unfold HoldsK
  rw [flatP]
  intro j hj
  have hj' : j < (cellsL l).length := by simpa using hj
  refine ⟨?_, by rw [Nat.zero_add]; exact h.1.frozenAt j⟩
  rw [Nat.zero_add, h.1.cellAt j (by rw [← cellsL_len]; exact hj'), List.getElem?_eq_getElem hj', getElem!_pos (cellsL l).toArray j (by simpa using hj)]
  simp
theorem own_sorted {W w : World} {g cap : Nat} {l l' : List (Int × Int)} (h : Own W w (.slice (some ⟨g, 0, none⟩) l.length cap) l) (hl : l'.length = l.length) (n : Nat) (os : Array Obj) :
    Own W (sortWorldK encP 2 w g 0 n l'.toArray os) (.slice (some ⟨g, 0, none⟩) l'.length cap) l' := by
  have ho := h.1
  rcases ho.2 with ⟨h', _⟩ | ⟨g', cap', cur, h', hb, hg, hnc, hcm, hcs, htake⟩
  · simp at h'
  · simp only [Value.slice.injEq, Option.some.injEq, Addr.mk.injEq, and_true, true_and] at h'
    obtain ⟨rfl, rfl⟩ := h'
    have hlt : g < w.heap.size := (Array.getElem?_eq_some_iff.1 hg).1
    have hgrow : w.grownBy (sortWorldK encP 2 w g 0 n l'.toArray os) (some g) := by
      refine ⟨rfl, rfl, rfl, ?_, fun k hk hne => ?_⟩
      · show w.heap.size ≤ ((w.heap.modify g _) ++ os).size
        simp
      · show ((w.heap.modify g _) ++ os)[k]? = _
        rw [Array.getElem?_append_left (by simpa using hk), Array.getElem?_modify, if_neg (fun e => hne (by rw [e]))]
    refine h.grow hgrow ⟨by rw [cellsL_len], .inr ⟨g, cap, putCells id 0 (cellsL l').toArray cur, rfl, hb, ?_, by omega, hcm, by simp [putCells, hcs], ?_⟩⟩
    · show ((w.heap.modify g _) ++ os)[g]? = _
      rw [Array.getElem?_append_left (by simpa using hlt), Array.getElem?_modify, if_pos rfl, hg, flatP]
      rfl
    · have hs : l'.length * 2 ≤ cur.size := by rw [hcs, hl]; exact Nat.mul_le_mul_right _ hnc
      apply List.ext_getElem?
      intro j
      rw [List.getElem?_take]
      by_cases hj : j < l'.length * 2
      · rw [if_pos hj]
        have hj' : j < (cellsL l').length := by rw [cellsL_len]; exact hj
        rw [Array.getElem?_toList, putCells, Array.getElem?_mapIdx, Array.getElem?_eq_getElem (by omega), Option.map_some, if_pos ⟨Nat.zero_le _, by simpa using hj'⟩, List.getElem?_eq_getElem hj', Nat.sub_zero, getElem!_pos (cellsL l').toArray j (by simpa using hj')]
        simp
      · rw [if_neg hj, List.getElem?_eq_none (by rw [cellsL_len]; omega)]
theorem sort_per (W w : World) (v : Value) (l : List (Int × Int)) (hO : Own W w v l) (hlen : l.length < 4611686018427387904) :
    Calls Try.prog 40 #[v, .func (.func 41) #[] #[]] w fun e w' => e = .returned (.tuple #[]) ∧ ∃ l', l'.Perm l ∧ (l'.Pairwise leP2) ∧ Own W w' v l' := by
  rcases hO.1.2 with ⟨rfl, h0⟩ | ⟨g, cap, cur, rfl, hb, hg, hnc, hcm, hcs, htake⟩
  · have := AnyF.slices_SortFunc_none Try.sortPd none 0 (.func (.func 41) #[] #[]) w
    refine this.mono ?_
    rintro e w' ⟨rfl, rfl⟩
    obtain rfl : l = [] := List.eq_nil_of_length_eq_zero h0
    exact ⟨rfl, [], List.Perm.refl _, List.Pairwise.nil, hO⟩
  · have hlt : g < w.heap.size := (Array.getElem?_eq_some_iff.1 hg).1
    have eg : ∀ args w, (callFunc 41 args).run Try.prog w = .ok (.enter 41 args) w := enters_of Try.func41 (by kernel_rfl) rfl
    have hcon := AnyQ.slices_SortFunc Try.sortPd 2 Try.isAgg28 Try.sizeOf28 encP (fun _ => rfl) (fun x v hv => by simp [encP] at hv; rcases hv with rfl | rfl <;> rfl) cmpP2 swoP 41 #[] g 0 cap l.toArray w eg
      (fun _ _ _ _ x y => compP_gw x y _) (holdsP hO) hlt (by simpa using hlen)
    change Calls Try.prog 40 _ _ _ at hcon
    rw [List.size_toArray] at hcon
    refine hcon.mono ?_
    rintro e w' ⟨rfl, d', n, os, ⟨hsz, _, hp⟩, hs, rfl⟩
    have hsz' : d'.toList.length = l.length := by simpa using hsz
    refine ⟨rfl, d'.toList, ?_, ?_, ?_⟩
    · have e1 : (d'.extract 0 l.length) = d' := by rw [← hsz', Array.length_toList]; simp
      have e2 : (l.toArray.extract 0 l.length) = l.toArray := by simp
      rw [e1, e2] at hp
      simpa using hp
    · rw [List.pairwise_iff_getElem]
      intro i j hi hj hij
      have hj2 : j < d'.size := by simpa using hj
      have hi2 : i < d'.size := by omega
      have := hs i j (Nat.zero_le _) hij (by omega)
      rw [ltP, getElem!_pos d' j hj2, getElem!_pos d' i hi2] at this
      simp only [decide_eq_false_iff_not] at this
      show leP2 d'[i] d'[j]
      unfold leP2
      omega
    · have := own_sorted hO hsz' n os
      rw [hsz'] at this
      simpa using this
end Go.Proofs.Ytnckdopphimgoaa
