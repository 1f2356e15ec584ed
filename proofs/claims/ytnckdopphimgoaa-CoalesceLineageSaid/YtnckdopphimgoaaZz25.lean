/- Rows of numbers: sorted, compacted. -/
import Derived.Test.YtnckdopphimgoaaZz03
import Derived.Test.YtnckdopphimgoaaZz12
import Derived.Test.YtnckdopphimgoaaZz20
import Derived.Test.YtnckdopphimgoaaZz24
namespace Go.Proofs.Ytnckdopphimgoaa
open Go.ChangeShapes Go.WideShapes Go.ChangeAt Go.RowKit
open Go.Sort (grow)

theorem holdsI {e : TypeId} {W w : World} {g cap : Nat} {l : List Int} (h : OwnG e W w (.slice (some ⟨g, 0, none⟩) l.length cap) l) : Go.Sort.Holds (Value.int .i64) w g 0 l.toArray := by
  intro j hj
  have hj' : j < l.length := by simpa using hj
  refine ⟨?_, by rw [Nat.zero_add]; exact h.1.frozenAt j⟩
  have hz : Enc.sz Int = 1 := rfl
  rw [Nat.zero_add, h.1.cellAt j (by rw [hz, Nat.mul_one]; exact hj'), cellsI, List.getElem?_map, List.getElem?_eq_getElem hj', getElem!_pos l.toArray j hj]
  simp
theorem own_put {e : TypeId} {W w : World} {g cap : Nat} {l l' : List Int} (h : OwnG e W w (.slice (some ⟨g, 0, none⟩) l.length cap) l) (hl : l'.length = l.length) (n : Nat) (os : Array Obj) :
    OwnG e W (grow (Go.Sort.putRow (Value.int .i64) (Go.Sort.ahead w n) g 0 l'.toArray) os) (.slice (some ⟨g, 0, none⟩) l'.length cap) l' := by
  have ho := h.1
  have hz : Enc.sz Int = 1 := rfl
  rcases ho.2 with ⟨h', _⟩ | ⟨g', cap', cur, h', hb, hg, hnc, hcm, hcs, htake⟩
  · simp at h'
  · simp only [Value.slice.injEq, Option.some.injEq, Addr.mk.injEq, and_true, true_and] at h'
    obtain ⟨rfl, rfl⟩ := h'
    have hlt : g < w.heap.size := (Array.getElem?_eq_some_iff.1 hg).1
    have hgrow : w.grownBy (grow (Go.Sort.putRow (Value.int .i64) (Go.Sort.ahead w n) g 0 l'.toArray) os) (some g) := by
      refine ⟨rfl, rfl, rfl, ?_, fun k hk hne => ?_⟩
      · show w.heap.size ≤ ((w.heap.modify g _) ++ os).size
        simp
      · show ((w.heap.modify g _) ++ os)[k]? = _
        rw [Array.getElem?_append_left (by simpa using hk), Array.getElem?_modify, if_neg (fun e => hne (by rw [e]))]
    refine h.grow hgrow ⟨by rw [cellsG_len], .inr ⟨g, cap, Go.Sort.putCells (Value.int .i64) 0 l'.toArray cur, rfl, hb, ?_, by omega, hcm, by simp [Go.Sort.putCells, hcs], ?_⟩⟩
    · show ((w.heap.modify g _) ++ os)[g]? = _
      rw [Array.getElem?_append_left (by simpa using hlt), Array.getElem?_modify, if_pos rfl, hg]
      rfl
    · have hs : l'.length * 1 ≤ cur.size := by rw [hcs, hl, hz]; exact Nat.mul_le_mul_right _ hnc
      apply List.ext_getElem?
      intro j
      rw [hz, List.getElem?_take, cellsI, List.getElem?_map]
      by_cases hj : j < l'.length * 1
      · rw [if_pos hj]
        have hj' : j < l'.length := by omega
        rw [Array.getElem?_toList, Go.Sort.putCells, Array.getElem?_mapIdx, Array.getElem?_eq_getElem (by omega), Option.map_some, if_pos ⟨Nat.zero_le _, by simpa using hj'⟩, List.getElem?_eq_getElem hj', Nat.sub_zero, getElem!_pos l'.toArray j (by simpa using hj')]
        simp
      · rw [if_neg hj, List.getElem?_eq_none (by omega)]; rfl
theorem own_put0 {e : TypeId} {W w : World} {g cap : Nat} {l l' : List Int} (h : OwnG e W w (.slice (some ⟨g, 0, none⟩) l.length cap) l) (hl : l'.length = l.length) (n : Nat) :
    OwnG e W (Go.Sort.putRow (Value.int .i64) (Go.Sort.ahead w n) g 0 l'.toArray) (.slice (some ⟨g, 0, none⟩) l'.length cap) l' := by
  have := own_put h hl n #[]
  have e : ∀ X : World, grow X #[] = X := fun X => by cases X; simp [grow]
  rw [e] at this
  exact this
theorem sort_I (e : TypeId) (W w : World) (v : Value) (l : List Int) (hO : OwnG e W w v l) (hlen : l.length ≤ 100000000) :
    Calls Try.prog 54 #[v] w fun e' w' => e' = .returned (.tuple #[]) ∧ OwnG e W w' v (l.mergeSort fun x y => decide (x ≤ y)) := by
  rcases hO.1.2 with ⟨rfl, h0⟩ | ⟨g, cap, cur, rfl, hb, hg, hnc, hcm, hcs, htake⟩
  · refine (Try.slices_Sort_int_none none 0 w).mono ?_
    rintro e w' ⟨rfl, rfl⟩
    obtain rfl : l = [] := List.eq_nil_of_length_eq_zero h0
    exact ⟨rfl, by simpa using hO⟩
  · have hlt : g < w.heap.size := (Array.getElem?_eq_some_iff.1 hg).1
    refine (Try.slices_Sort_int g 0 cap l w (holdsI hO) hlt (by omega)).mono ?_
    rintro e w' ⟨rfl, n, os, rfl⟩
    have hl : (l.mergeSort fun x y => decide (x ≤ y)).length = l.length := List.length_mergeSort _
    have := own_put hO hl n os
    rw [hl] at this
    exact ⟨rfl, this⟩
end Go.Proofs.Ytnckdopphimgoaa
/- The program's sortedEnds. -/
namespace Go.Proofs.Ytnckdopphimgoaa
open Go.ChangeShapes Go.WideShapes Go.ChangeAt Go.RowKit
open Go.Sort (grow)

theorem put_grown (w : World) (g n : Nat) (l : List Int) (os : Array Obj) : w.grownBy (grow (Go.Sort.putRow (Value.int .i64) (Go.Sort.ahead w n) g 0 l.toArray) os) (some g) := by
  refine ⟨rfl, rfl, rfl, ?_, fun k hk hne => ?_⟩
  · show w.heap.size ≤ ((w.heap.modify g _) ++ os).size
    simp
  · show ((w.heap.modify g _) ++ os)[k]? = _
    rw [Array.getElem?_append_left (by simpa using hk), Array.getElem?_modify, if_neg (fun e => hne (by rw [e]))]
/-- sorted in place: no other block is touched -/
theorem sort_I2 (e : TypeId) (W w : World) (v : Value) (l : List Int) (hO : OwnG e W w v l) (hlen : l.length ≤ 100000000) :
    Calls Try.prog 54 #[v] w fun e' w' => e' = .returned (.tuple #[]) ∧ OwnG e W w' v (l.mergeSort fun x y => decide (x ≤ y)) ∧ w.grownBy w' v.ownBlock := by
  rcases hO.1.2 with ⟨rfl, h0⟩ | ⟨g, cap, cur, rfl, hb, hg, hnc, hcm, hcs, htake⟩
  · refine (Try.slices_Sort_int_none none 0 w).mono ?_
    rintro e w' ⟨rfl, rfl⟩
    obtain rfl : l = [] := List.eq_nil_of_length_eq_zero h0
    exact ⟨rfl, by simpa using hO, World.grownBy.refl _ _⟩
  · have hlt : g < w.heap.size := (Array.getElem?_eq_some_iff.1 hg).1
    refine (Try.slices_Sort_int g 0 cap l w (holdsI hO) hlt (by omega)).mono ?_
    rintro e w' ⟨rfl, n, os, rfl⟩
    have hl : (l.mergeSort fun x y => decide (x ≤ y)).length = l.length := List.length_mergeSort _
    have := own_put hO hl n os
    rw [hl] at this
    exact ⟨rfl, this, put_grown _ _ _ _ _⟩
/-- the starts and the ends, each in ascending order -/
structure SeP (ps : List TP) (w w' : World) (v1 v2 : Value) (st en : List Int) : Prop where
  r1 : RdG w' v1 st
  r2 : RdG w' v2 en
  p1 : st.Perm (ps.map TP.a)
  p2 : en.Perm (ps.map TP.b)
  s1 : st.Pairwise (· ≤ ·)
  s2 : en.Pairwise (· ≤ ·)
  ext : Ext w w'
theorem sorted_ms (l : List Int) : (l.mergeSort fun x y => decide (x ≤ y)).Pairwise (· ≤ ·) := by
  have := List.pairwise_mergeSort (le := fun (x y : Int) => decide (x ≤ y)) (by intro a b c; simp; omega) (by intro a b; simp; omega) l
  exact this.imp fun h => by simpa using h
theorem map_take {α β : Type} (f : α → β) {l : List α} {k : Nat} (hk : k < l.length) : (l.take (k + 1)).map f = (l.take k).map f ++ [f l[k]] := by
  rw [List.take_succ_eq_append_getElem hk, List.map_append]; rfl
def SeR (w : World) (ps : List TP) (u v i : Value) (wr : World) : Prop := ∃ k : Nat, k ≤ ps.length ∧ i = .int .i64 k ∧ Duo tI.e tI.e w wr u v ((ps.take k).map TP.a) ((ps.take k).map TP.b)
set_option maxHeartbeats 4000000 in
set_option maxRecDepth 100000 in
theorem ends_prg (ps : List TP) (v : Value) (w : World) (h : RdG w v ps) (hl : ps.length ≤ 1000000) : Calls Try.prog 39 #[v] w fun e w' => ∃ v1 v2 st en, e = .returned (.tuple #[v1, v2]) ∧ SeP ps w w' v1 v2 st en := by
  obtain ⟨ad, cap, rfl, h1, h2⟩ := h.shape
  have H := Lib.hid h
  clear h
  unfold maxLen at h2
  obtain ⟨n, hn⟩ : ∃ n, n = ps.length := ⟨_, rfl⟩
  have HN := Lib.hid hn
  rw [← hn] at H h1 hl ⊢
  clear hn
  go_enter Try.func39, Try.ntmps39
  go_wp2_with fail
  go_loopw [2, 3, 8] (SeR w ps) (fun _ _ i _ => n - (intOf i).toNat)
  case atStart => exact ⟨0, Nat.zero_le _, rfl, Duo.nil _ _ (Ext.refl _)⟩
  case round =>
    obtain ⟨k, hk, rfl, hD⟩ := hrel
    have hkn : k ≤ n := by rw [HN.out]; exact hk
    by_cases hlt : k < n
    · have hlt' : k < ps.length := by rw [← HN.out]; exact hlt
      obtain ⟨g, o, rfl, c0', c1', c2', c3'⟩ := rd_T H.out k hlt'
      have c0 := hD.l.2.keeps c0'
      have c1 := hD.l.2.keeps c1'
      have c2 := hD.l.2.keeps c2'
      have c3 := hD.l.2.keeps c3'
      clear c0' c1' c2' c3'
      have HA := Lib.hid (map_take TP.a hlt')
      have HB := Lib.hid (map_take TP.b hlt')
      have hi0 : (0 : Int) ≤ (k : Int) := by omega
      have hi1 : (k : Int) < (n : Int) := by omega
      have hLA : ((ps.take k).map TP.a).length ≤ 1000000 := by rw [List.length_map, List.length_take]; omega
      have hLB : ((ps.take k).map TP.b).length ≤ 1000000 := by rw [List.length_map, List.length_take]; omega
      generalize ps[k] = x at *
      obtain ⟨⟨xa, xn, xc, xb, xm, xd⟩, xr, pa, pb⟩ := x
      simp only [Hd.x, Hd.y] at c0 c1 c2 c3 HA HB
      obtain ⟨b0, b1, b2, b3⟩ := box4 wr (.slice xa xn xc) (.int .i64 pa) (.int .i64 pb) (.slice xb xm xd) 31
      have hE0 : Ext wr (wr.alloc (.cells #[.slice xa xn xc, .int .i64 pa, .int .i64 pb, .slice xb xm xd] 31)) := (Ext.refl wr).alloc _ _
      have HD := Lib.hid hD
      have HL1 := Lib.hid hLA
      have HL2 := Lib.hid hLB
      have HU := Lib.hid hD.l.lt
      have HE0 := Lib.hid hE0
      have K2 := Lib.hid b2
      clear hD hLA hLB b0 b1 b2 b3 hE0
      generalize (ps.take k).map TP.a = A at *
      generalize (ps.take k).map TP.b = B at *
      go_wp2_with (first | (at_builtin; refine appGL tI rfl _ _ rfl w _ A rfl ?a1 _ [pa] rfl ?a2 ?a3 ?_; (case a1 => exact (HD.out.ext (HE0.out.trans ((Ext.refl _).alloc _ _))).l); (case a2 => exact rd_lit1I _ pa _ _ (alsz _ _).symm); (case a3 => have := HL1.out; simp; omega); intro v5 w5 hO5 hg5 hl5; have hD5 := (HD.out.ext (HE0.out.trans ((Ext.refl _).alloc #[.int .i64 pa] 3))).left hO5 hg5 hl5; have q2 := grow_cell hg5 (((Ext.refl _).alloc #[.int .i64 pa] 3).keeps K2.out) (fun kk hh => by have := HU.out kk hh; omega); have HD5 := Lib.hid hD5; clear hO5 hg5 hl5 hD5) | (at_builtin; refine appGL tI rfl _ _ rfl w _ B rfl ?a1 _ [pb] rfl ?a2 ?a3 ?_; (case a1 => exact (HD5.out.ext ((Ext.refl w5).alloc _ _)).m); (case a2 => exact rd_lit1I _ pb _ _ rfl); (case a3 => have := HL2.out; simp; omega); intro v6 w6 hO6 hg6 hl6; have hD6 := (HD5.out.ext ((Ext.refl w5).alloc #[.int .i64 pb] 3)).right hO6 hg6 hl6; clear hO6 hg6 hl6))
      go_roundw
      case rel => exact ⟨k + 1, hlt', by go_num, by rw [HA.out, HB.out]; exact hD6⟩
      case measure => simp [intOf]; omega
    · have hke : k = n := by omega
      have hall : ps.take k = ps := by rw [List.take_of_length_le]; rw [← HN.out, hke]; exact Nat.le_refl _
      rw [hall] at hD
      have HD := Lib.hid hD
      have HL1 := Lib.hid (show (ps.map TP.a).length ≤ 100000000 by rw [List.length_map]; have := HN.out; omega)
      have HL2 := Lib.hid (show (ps.map TP.b).length ≤ 100000000 by rw [List.length_map]; have := HN.out; omega)
      clear hD hall
      go_wp2_with fail
      refine (sort_I2 _ w wr _ _ HD.out.l HL1.out).mono ?_; rintro e w1 ⟨rfl, hO1, hg1⟩
      have HD1 := Lib.hid (HD.out.left hO1 hg1 (Loc.refl _ _))
      clear hO1 hg1
      go_wp2_with fail
      refine (sort_I2 _ w w1 _ _ HD1.out.m HL2.out).mono ?_; rintro e w2 ⟨rfl, hO2, hg2⟩
      have HD2 := Lib.hid (HD1.out.right hO2 hg2 (Loc.refl _ _))
      clear hO2 hg2
      go_wp2_with fail
      go_ret2
      exact ⟨_, _, _, _, rfl, HD2.out.l.rd, HD2.out.m.rd, List.mergeSort_perm _ _, List.mergeSort_perm _ _, sorted_ms _, sorted_ms _, HD2.out.l.2⟩
end Go.Proofs.Ytnckdopphimgoaa
