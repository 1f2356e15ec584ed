/- Rows of numbers: sorted, compacted. -/
import Derived.Test.YtcankdikbnllkaaGreatZz03
import Derived.Test.YtcankdikbnllkaaGreatZz09
import Derived.Test.YtcankdikbnllkaaGreatZz17
import Derived.Test.YtcankdikbnllkaaGreatZz19
import Derived.Test.YtcankdikbnllkaaGreatZz21
namespace Go.Proofs.YtcankdikbnllkaaGreat
open Go.ChangeShapes Go.WideShapes Go.ChangeAt Go.RowKit
open Go.Sort (grow)

theorem holdsI {e : TypeId} {W w : World} {g cap : Nat} {l : List Int} (h : OwnG e W w (.slice (some ⟨g, 0, none⟩) l.length cap) l) : Go.Sort.Holds (Value.int .i64) w g 0 l.toArray := by
  intro j hj
  have hj' : j < l.length := by simpa using hj
  refine ⟨?_, by rw [Nat.zero_add]; exact h.1.frozenAt j⟩
  have hz : Enc.sz Int = 1 := rfl
  rw [Nat.zero_add, h.1.cellAt j (by rw [hz, Nat.mul_one]; exact hj'), cellsI, List.getElem?_map, List.getElem?_eq_getElem hj', getElem!_pos l.toArray j hj]
  simp
theorem own_put {e : TypeId} {W w : World} {g cap : Nat} {l l' : List Int} (h : OwnG e W w (.slice (some ⟨g, 0, none⟩) l.length cap) l) (hl : l'.length = l.length) (n : Nat) (os : Array Obj) :
    OwnG e W (grow (Go.Sort.putRow (Value.int .i64) (Go.Sort.ahead w n) g 0 l'.toArray) os) (.slice (some ⟨g, 0, none⟩) l'.length cap) l' := by
  have ho := h.1
  have hz : Enc.sz Int = 1 := rfl
  rcases ho.2 with ⟨h', _⟩ | ⟨g', cap', cur, h', hb, hg, hnc, hcm, hcs, htake⟩
  · simp at h'
  · simp only [Value.slice.injEq, Option.some.injEq, Addr.mk.injEq, and_true, true_and] at h'
    obtain ⟨rfl, rfl⟩ := h'
    have hlt : g < w.heap.size := (Array.getElem?_eq_some_iff.1 hg).1
    have hgrow : w.grownBy (grow (Go.Sort.putRow (Value.int .i64) (Go.Sort.ahead w n) g 0 l'.toArray) os) (some g) := by
      refine ⟨rfl, rfl, rfl, ?_, fun k hk hne => ?_⟩
      · show w.heap.size ≤ ((w.heap.modify g _) ++ os).size
        simp
      · show ((w.heap.modify g _) ++ os)[k]? = _
        rw [Array.getElem?_append_left (by simpa using hk), Array.getElem?_modify, if_neg (fun e => hne (by rw [e]))]
    refine h.grow hgrow ⟨by rw [cellsG_len], .inr ⟨g, cap, Go.Sort.putCells (Value.int .i64) 0 l'.toArray cur, rfl, hb, ?_, by omega, hcm, by simp [Go.Sort.putCells, hcs], ?_⟩⟩
    · show ((w.heap.modify g _) ++ os)[g]? = _
      rw [Array.getElem?_append_left (by simpa using hlt), Array.getElem?_modify, if_pos rfl, hg]
      rfl
    · have hs : l'.length * 1 ≤ cur.size := by rw [hcs, hl, hz]; exact Nat.mul_le_mul_right _ hnc
      apply List.ext_getElem?
      intro j
      rw [hz, List.getElem?_take, cellsI, List.getElem?_map]
      by_cases hj : j < l'.length * 1
      · rw [if_pos hj]
        have hj' : j < l'.length := by omega
        rw [Array.getElem?_toList, Go.Sort.putCells, Array.getElem?_mapIdx, Array.getElem?_eq_getElem (by omega), Option.map_some, if_pos ⟨Nat.zero_le _, by simpa using hj'⟩, List.getElem?_eq_getElem hj', Nat.sub_zero, getElem!_pos l'.toArray j (by simpa using hj')]
        simp
      · rw [if_neg hj, List.getElem?_eq_none (by omega)]; rfl
theorem own_put0 {e : TypeId} {W w : World} {g cap : Nat} {l l' : List Int} (h : OwnG e W w (.slice (some ⟨g, 0, none⟩) l.length cap) l) (hl : l'.length = l.length) (n : Nat) :
    OwnG e W (Go.Sort.putRow (Value.int .i64) (Go.Sort.ahead w n) g 0 l'.toArray) (.slice (some ⟨g, 0, none⟩) l'.length cap) l' := by
  have := own_put h hl n #[]
  have e : ∀ X : World, grow X #[] = X := fun X => by cases X; simp [grow]
  rw [e] at this
  exact this
theorem sort_I (e : TypeId) (W w : World) (v : Value) (l : List Int) (hO : OwnG e W w v l) (hlen : l.length ≤ 100000000) :
    Calls Tryz.prog 43 #[v] w fun e' w' => e' = .returned (.tuple #[]) ∧ OwnG e W w' v (l.mergeSort fun x y => decide (x ≤ y)) := by
  rcases hO.1.2 with ⟨rfl, h0⟩ | ⟨g, cap, cur, rfl, hb, hg, hnc, hcm, hcs, htake⟩
  · refine (Tryz.slices_Sort_int_none none 0 w).mono ?_
    rintro e w' ⟨rfl, rfl⟩
    obtain rfl : l = [] := List.eq_nil_of_length_eq_zero h0
    exact ⟨rfl, by simpa using hO⟩
  · have hlt : g < w.heap.size := (Array.getElem?_eq_some_iff.1 hg).1
    refine (Tryz.slices_Sort_int g 0 cap l w (holdsI hO) hlt (by omega)).mono ?_
    rintro e w' ⟨rfl, n, os, rfl⟩
    have hl : (l.mergeSort fun x y => decide (x ≤ y)).length = l.length := List.length_mergeSort _
    have := own_put hO hl n os
    rw [hl] at this
    exact ⟨rfl, this⟩
theorem cut_I (e : TypeId) (W w : World) (v : Value) (l : List Int) (hO : OwnG e W w v l) (hlen : l.length ≤ 100000000) :
    Calls Tryz.prog 44 #[v] w fun e' w' => ∃ v', e' = .returned v' ∧ RdG w' v' (Lib.compact l) ∧ Ext W w' := by
  rcases hO.1.2 with ⟨rfl, h0⟩ | ⟨g, cap, cur, rfl, hb, hg, hnc, hcm, hcs, htake⟩
  · refine (Tryz.slices_Compact_int_empty none 0 w).mono ?_
    rintro e w' ⟨rfl, rfl⟩
    obtain rfl : l = [] := List.eq_nil_of_length_eq_zero h0
    exact ⟨_, rfl, rdG_nil _, hO.2⟩
  · refine (Tryz.slices_Compact_int g 0 cap l w (holdsI hO) (by omega) hnc).mono ?_
    rintro e w' ⟨rfl, q, rfl⟩
    have hle : (Lib.compact l).length ≤ l.length := by unfold Lib.compact Lib.compactUpTo; rw [List.length_map]; exact Nat.le_trans (List.length_filter_le _ _) (by simp)
    have hl : (Lib.compact l ++ List.replicate (l.length - (Lib.compact l).length) 0).length = l.length := by simp; omega
    have := own_put0 hO hl q
    refine ⟨_, rfl, ?_, this.2⟩
    have h2 := this.rd.take (Lib.compact l).length (by rw [hl]; exact hle)
    rw [List.take_left'] at h2
    · exact h2
    · rfl
end Go.Proofs.YtcankdikbnllkaaGreat
/- The program's sortedEnds. -/
namespace Go.Proofs.YtcankdikbnllkaaGreat
open Go.ChangeShapes Go.WideShapes Go.ChangeAt Go.RowKit
open Go.Sort (grow)

theorem put_grown (w : World) (g n : Nat) (l : List Int) (os : Array Obj) : w.grownBy (grow (Go.Sort.putRow (Value.int .i64) (Go.Sort.ahead w n) g 0 l.toArray) os) (some g) := by
  refine ⟨rfl, rfl, rfl, ?_, fun k hk hne => ?_⟩
  · show w.heap.size ≤ ((w.heap.modify g _) ++ os).size
    simp
  · show ((w.heap.modify g _) ++ os)[k]? = _
    rw [Array.getElem?_append_left (by simpa using hk), Array.getElem?_modify, if_neg (fun e => hne (by rw [e]))]
/-- sorted in place: no other block is touched -/
theorem sort_I2 (e : TypeId) (W w : World) (v : Value) (l : List Int) (hO : OwnG e W w v l) (hlen : l.length ≤ 100000000) :
    Calls Tryz.prog 43 #[v] w fun e' w' => e' = .returned (.tuple #[]) ∧ OwnG e W w' v (l.mergeSort fun x y => decide (x ≤ y)) ∧ w.grownBy w' v.ownBlock := by
  rcases hO.1.2 with ⟨rfl, h0⟩ | ⟨g, cap, cur, rfl, hb, hg, hnc, hcm, hcs, htake⟩
  · refine (Tryz.slices_Sort_int_none none 0 w).mono ?_
    rintro e w' ⟨rfl, rfl⟩
    obtain rfl : l = [] := List.eq_nil_of_length_eq_zero h0
    exact ⟨rfl, by simpa using hO, World.grownBy.refl _ _⟩
  · have hlt : g < w.heap.size := (Array.getElem?_eq_some_iff.1 hg).1
    refine (Tryz.slices_Sort_int g 0 cap l w (holdsI hO) hlt (by omega)).mono ?_
    rintro e w' ⟨rfl, n, os, rfl⟩
    have hl : (l.mergeSort fun x y => decide (x ≤ y)).length = l.length := List.length_mergeSort _
    have := own_put hO hl n os
    rw [hl] at this
    exact ⟨rfl, this, put_grown _ _ _ _ _⟩
/-- the starts and the ends, each in ascending order -/
structure SeP (ps : List TP) (w w' : World) (v1 v2 : Value) (st en : List Int) : Prop where
  r1 : RdG w' v1 st
  r2 : RdG w' v2 en
  p1 : st.Perm (ps.map TP.a)
  p2 : en.Perm (ps.map TP.b)
  s1 : st.Pairwise (· ≤ ·)
  s2 : en.Pairwise (· ≤ ·)
  ext : Ext w w'
theorem sorted_ms (l : List Int) : (l.mergeSort fun x y => decide (x ≤ y)).Pairwise (· ≤ ·) := by
  have := List.pairwise_mergeSort (le := fun (x y : Int) => decide (x ≤ y)) (by intro a b c; simp; omega) (by intro a b; simp; omega) l
  exact this.imp fun h => by simpa using h
theorem map_take {α β : Type} (f : α → β) {l : List α} {k : Nat} (hk : k < l.length) : (l.take (k + 1)).map f = (l.take k).map f ++ [f l[k]] := by
  rw [List.take_succ_eq_append_getElem hk, List.map_append]; rfl
def SeR (w : World) (ps : List TP) (u v i : Value) (wr : World) : Prop := ∃ k : Nat, k ≤ ps.length ∧ i = .int .i64 k ∧ Duo tI.e tI.e w wr u v ((ps.take k).map TP.a) ((ps.take k).map TP.b)
set_option maxHeartbeats 4000000 in
set_option maxRecDepth 100000 in
theorem ends_prg (ps : List TP) (v : Value) (w : World) (h : RdG w v ps) (hl : ps.length ≤ 1000000) : Calls Tryz.prog 88 #[v] w fun e w' => ∃ v1 v2 st en, e = .returned (.tuple #[v1, v2]) ∧ SeP ps w w' v1 v2 st en := by
  obtain ⟨ad, cap, rfl, h1, h2⟩ := h.shape
  have H := Lib.hid h
  clear h
  unfold maxLen at h2
  obtain ⟨n, hn⟩ : ∃ n, n = ps.length := ⟨_, rfl⟩
  have HN := Lib.hid hn
  rw [← hn] at H h1 hl ⊢
  clear hn
  go_enter Tryz.func88, Tryz.ntmps88
  go_wp2_with fail
  go_loopw [2, 3, 8] (SeR w ps) (fun _ _ i _ => n - (intOf i).toNat)
  case atStart => exact ⟨0, Nat.zero_le _, rfl, Duo.nil _ _ (Ext.refl _)⟩
  case round =>
    obtain ⟨k, hk, rfl, hD⟩ := hrel
    have hkn : k ≤ n := by rw [HN.out]; exact hk
    by_cases hlt : k < n
    · have hlt' : k < ps.length := by rw [← HN.out]; exact hlt
      obtain ⟨g, o, rfl, c0', c1', c2', c3'⟩ := rd_T H.out k hlt'
      have c0 := hD.l.2.keeps c0'
      have c1 := hD.l.2.keeps c1'
      have c2 := hD.l.2.keeps c2'
      have c3 := hD.l.2.keeps c3'
      clear c0' c1' c2' c3'
      have HA := Lib.hid (map_take TP.a hlt')
      have HB := Lib.hid (map_take TP.b hlt')
      have hi0 : (0 : Int) ≤ (k : Int) := by omega
      have hi1 : (k : Int) < (n : Int) := by omega
      have hLA : ((ps.take k).map TP.a).length ≤ 1000000 := by rw [List.length_map, List.length_take]; omega
      have hLB : ((ps.take k).map TP.b).length ≤ 1000000 := by rw [List.length_map, List.length_take]; omega
      generalize ps[k] = x at *
      obtain ⟨⟨xa, xn, xc, xb, xm, xd⟩, xr, pa, pb⟩ := x
      simp only [Hd.x, Hd.y] at c0 c1 c2 c3 HA HB
      obtain ⟨b0, b1, b2, b3⟩ := box4 wr (.slice xa xn xc) (.int .i64 pa) (.int .i64 pb) (.slice xb xm xd) 32
      have hE0 : Ext wr (wr.alloc (.cells #[.slice xa xn xc, .int .i64 pa, .int .i64 pb, .slice xb xm xd] 32)) := (Ext.refl wr).alloc _ _
      have HD := Lib.hid hD
      have HL1 := Lib.hid hLA
      have HL2 := Lib.hid hLB
      have HU := Lib.hid hD.l.lt
      have HE0 := Lib.hid hE0
      have K2 := Lib.hid b2
      clear hD hLA hLB b0 b1 b2 b3 hE0
      generalize (ps.take k).map TP.a = A at *
      generalize (ps.take k).map TP.b = B at *
      go_wp2_with (first | (at_builtin; refine appGL tI rfl _ _ rfl w _ A rfl ?a1 _ [pa] rfl ?a2 ?a3 ?_; (case a1 => exact (HD.out.ext (HE0.out.trans ((Ext.refl _).alloc _ _))).l); (case a2 => exact rd_lit1I _ pa _ _ (alsz _ _).symm); (case a3 => have := HL1.out; simp; omega); intro v5 w5 hO5 hg5 hl5; have hD5 := (HD.out.ext (HE0.out.trans ((Ext.refl _).alloc #[.int .i64 pa] 3))).left hO5 hg5 hl5; have q2 := grow_cell hg5 (((Ext.refl _).alloc #[.int .i64 pa] 3).keeps K2.out) (fun kk hh => by have := HU.out kk hh; omega); have HD5 := Lib.hid hD5; clear hO5 hg5 hl5 hD5) | (at_builtin; refine appGL tI rfl _ _ rfl w _ B rfl ?a1 _ [pb] rfl ?a2 ?a3 ?_; (case a1 => exact (HD5.out.ext ((Ext.refl w5).alloc _ _)).m); (case a2 => exact rd_lit1I _ pb _ _ rfl); (case a3 => have := HL2.out; simp; omega); intro v6 w6 hO6 hg6 hl6; have hD6 := (HD5.out.ext ((Ext.refl w5).alloc #[.int .i64 pb] 3)).right hO6 hg6 hl6; clear hO6 hg6 hl6))
      go_roundw
      case rel => exact ⟨k + 1, hlt', by go_num, by rw [HA.out, HB.out]; exact hD6⟩
      case measure => simp [intOf]; omega
    · have hke : k = n := by omega
      have hall : ps.take k = ps := by rw [List.take_of_length_le]; rw [← HN.out, hke]; exact Nat.le_refl _
      rw [hall] at hD
      have HD := Lib.hid hD
      have HL1 := Lib.hid (show (ps.map TP.a).length ≤ 100000000 by rw [List.length_map]; have := HN.out; omega)
      have HL2 := Lib.hid (show (ps.map TP.b).length ≤ 100000000 by rw [List.length_map]; have := HN.out; omega)
      clear hD hall
      go_wp2_with fail
      refine (sort_I2 _ w wr _ _ HD.out.l HL1.out).mono ?_; rintro e w1 ⟨rfl, hO1, hg1⟩
      have HD1 := Lib.hid (HD.out.left hO1 hg1 (Loc.refl _ _))
      clear hO1 hg1
      go_wp2_with fail
      refine (sort_I2 _ w w1 _ _ HD1.out.m HL2.out).mono ?_; rintro e w2 ⟨rfl, hO2, hg2⟩
      have HD2 := Lib.hid (HD1.out.right hO2 hg2 (Loc.refl _ _))
      clear hO2 hg2
      go_wp2_with fail
      go_ret2
      exact ⟨_, _, _, _, rfl, HD2.out.l.rd, HD2.out.m.rd, List.mergeSort_perm _ _, List.mergeSort_perm _ _, sorted_ms _, sorted_ms _, HD2.out.l.2⟩
end Go.Proofs.YtcankdikbnllkaaGreat
/- The first that is not zero, of two; the program's order of periods. -/
namespace Go.Proofs.YtcankdikbnllkaaGreat
open Go.ChangeShapes Go.WideShapes Go.ChangeAt Go.RowKit Go.Sort

def or2 (a b : Int) : Int := if a = 0 then b else a
def OrR (a b : Int) (w : World) (i : Value) (wr : World) : Prop := ∃ k : Nat, k ≤ 2 ∧ i = .int .i64 k ∧ Hid ((1 ≤ k → a = 0) ∧ (2 ≤ k → b = 0)) ∧ wr = w
set_option maxHeartbeats 2000000 in
theorem or_gw (a b : Int) (v : Value) (w : World) (h : RdG w v [a, b]) : Calls Tryz.prog 110 #[v] w fun e w' => e = .returned (.int .i64 (or2 a b)) ∧ w' = w := by
  obtain ⟨ad, cap, rfl, h1, h2⟩ := h.shape
  obtain ⟨g, o, rfl, c0'⟩ := h.at 0 (by simp)
  obtain ⟨g', o', e', c1'⟩ := h.at 1 (by simp)
  simp only [Option.some.injEq, Addr.mk.injEq, and_true] at e'
  obtain ⟨rfl, rfl⟩ := e'
  have c0 := c0' 0 _ rfl
  have c1 := c1' 0 _ rfl
  simp only [Enc.sz, Nat.add_zero, List.getElem_cons_zero, List.getElem_cons_succ, Nat.zero_mul] at c0 c1
  clear c0' c1' h
  simp only [List.length_cons, List.length_nil] at h1 ⊢
  have K0 := Lib.hid c0
  have K1 := Lib.hid c1
  clear c0 c1
  go_enter Tryz.func110, Tryz.ntmps110
  go_wp2_with fail
  go_loopw [8] (OrR a b w) (fun i _ => 2 - (intOf i).toNat)
  case atStart => exact ⟨0, by omega, rfl, Lib.hid ⟨fun h => by omega, fun h => by omega⟩, rfl⟩
  case round =>
    obtain ⟨k, hk, rfl, HZ, rfl⟩ := hrel
    rcases (show k = 0 ∨ k = 1 ∨ k = 2 by omega) with rfl | rfl | rfl
    · have c0 := K0.out
      by_cases hz : a = 0
      · subst hz
        go_wp2_with fail
        go_roundw
        case rel => exact ⟨1, by omega, rfl, Lib.hid ⟨fun _ => rfl, fun h => by omega⟩, rfl⟩
        case measure => simp [intOf]
      · have HR := Lib.hid (show or2 a b = a from if_neg hz)
        have hz1 : (a == 0) = false := by simpa using hz
        go_wp2_with fail
        try simp only [Exit.inBlock, Exit.then]
        go_ret
        exact ⟨ret_int HR.out.symm, rfl⟩
    · have c1 := K1.out
      obtain rfl := HZ.out.1 (Nat.le_refl _)
      by_cases hz : b = 0
      · subst hz
        go_wp2_with fail
        go_roundw
        case rel => exact ⟨2, by omega, rfl, Lib.hid ⟨fun _ => rfl, fun _ => rfl⟩, rfl⟩
        case measure => simp [intOf]
      · have HR := Lib.hid (show or2 0 b = b from if_pos rfl)
        have hz1 : (b == 0) = false := by simpa using hz
        go_wp2_with fail
        try simp only [Exit.inBlock, Exit.then]
        go_ret
        exact ⟨ret_int HR.out.symm, rfl⟩
    · obtain rfl := HZ.out.1 (by omega)
      obtain rfl := HZ.out.2 (Nat.le_refl _)
      go_wp2_with fail
      go_ret
      exact ⟨rfl, rfl⟩
/-- by starts, then by ends, «as» a number -/
def cmpP2 (p q : Int × Int) : Int := or2 (Lib.compareInt p.1 q.1) (Lib.compareInt p.2 q.2)
set_option maxHeartbeats 4000000 in
set_option maxRecDepth 100000 in
theorem compP_gw (p q : Int × Int) (w : World) : Calls Tryz.prog 90 #[pv p.1 p.2, pv q.1 q.2] w fun e w' => e = .returned (.int .i64 (cmpP2 p q)) ∧ Gw w w' := by
  obtain ⟨a, b⟩ := p
  obtain ⟨c, d⟩ := q
  have hc := fun w2 => Tryz.cmp_Compare_int a c w2
  have hd := fun w2 => Tryz.cmp_Compare_int b d w2
  have ho := fun w2 v => or_gw (Lib.compareInt a c) (Lib.compareInt b d) v w2
  have HV := Lib.hid (show cmpP2 (a, b) (c, d) = or2 (Lib.compareInt a c) (Lib.compareInt b d) from rfl)
  generalize or2 (Lib.compareInt a c) (Lib.compareInt b d) = rr at *
  generalize cmpP2 (a, b) (c, d) = r at *
  generalize Lib.compareInt a c = x at *
  generalize Lib.compareInt b d = y at *
  have HC := Lib.hid hc
  have HD := Lib.hid hd
  have HO := Lib.hid ho
  clear hc hd ho
  have F1 : True := trivial
  go_enter Tryz.func90, Tryz.ntmps90
  go_wp2_with fail
  have b0 := al0 w (.int .i64 a) (.int .i64 b) 24
  have b1 := al1 w (.int .i64 a) (.int .i64 b) 24
  have d0 := al0 (w.alloc (.cells #[.int .i64 a, .int .i64 b] 24)) (.int .i64 c) (.int .i64 d) 24
  have d1 := al1 (w.alloc (.cells #[.int .i64 a, .int .i64 b] 24)) (.int .i64 c) (.int .i64 d) 24
  have hX := gw2 w (.cells #[.int .i64 a, .int .i64 b] 24) (.cells #[.int .i64 c, .int .i64 d] 24)
  have hk : Ext (w.alloc (.cells #[.int .i64 a, .int .i64 b] 24)) ((w.alloc (.cells #[.int .i64 a, .int .i64 b] 24)).alloc (.cells #[.int .i64 c, .int .i64 d] 24)) := (Ext.refl _).alloc _ _
  have c0 := hk.keeps b0
  have c1 := hk.keeps b1
  rw [alsz] at d0 d1
  clear b0 b1 hk
  generalize (w.alloc (.cells #[.int .i64 a, .int .i64 b] 24)).alloc (.cells #[.int .i64 c, .int .i64 d] 24) = W at *
  have z0 : w.heap.size < W.heap.size := World.block_lt_of_cell? _ _ c0
  have z1 : w.heap.size + 1 < W.heap.size := World.block_lt_of_cell? _ _ d0
  have K0 := Lib.hid c0
  have K1 := Lib.hid c1
  have K2 := Lib.hid d0
  have K3 := Lib.hid d1
  have HX := Lib.hid hX
  clear c0 c1 d0 d1 hX
  have EA := Lib.hid (((Ext.refl W).alloc #[.int .i64 x, .int .i64 y] 3).drew)
  go_region_held3 (fun w' => w'.cell? ⟨w.heap.size, 0, none⟩ = some (.int .i64 a) ∧ w'.cell? ⟨w.heap.size, 1, none⟩ = some (.int .i64 b) ∧ w'.cell? ⟨w.heap.size + 1, 0, none⟩ = some (.int .i64 c) ∧ w'.cell? ⟨w.heap.size + 1, 1, none⟩ = some (.int .i64 d)) (first | exact ⟨K0.out, K1.out, K2.out, K3.out⟩ | exact ⟨EA.out.keeps K0.out, EA.out.keeps K1.out, EA.out.keeps K2.out, EA.out.keeps K3.out⟩ | go_keep)
    (first | (clear F1; go_at_call 111; refine (HC.out _).mono ?_; rintro e w3 ⟨rfl, rfl⟩) | (go_at_call 111; refine (HD.out _).mono ?_; rintro e w3 ⟨rfl, rfl⟩) | (go_at_call 110; refine (HO.out _ _ ?_).mono ?_; (exact rd_litG W [x, y] #[.int .i64 x, .int .i64 y] 3 _ 2 rfl rfl (by simp) rfl); rintro e w4 ⟨rfl, rfl⟩))
  go_wp2_with fail
  go_ret
  exact ⟨ret_int HV.out.symm, (HX.out.alloc _).drew⟩
/-- the same row and the same period -/
def sameT (x y : Tu) : Bool := decide (x = y)
theorem sameT_eq (x y : Tu) : sameT x y = (decide (x.a = y.a ∧ x.b = y.b) && decide (cmpW x.r y.r = 0)) := by
  obtain ⟨xr, xa, xb⟩ := x
  obtain ⟨yr, ya, yb⟩ := y
  unfold sameT
  rw [Bool.eq_iff_iff]
  simp only [Tu.mk.injEq, Bool.and_eq_true, decide_eq_true_eq, cw_ord.zero xr yr]
  constructor
  · rintro ⟨h1, h2, h3⟩; exact ⟨⟨h2, h3⟩, h1⟩
  · rintro ⟨⟨h2, h3⟩, h1⟩; exact ⟨h1, h2, h3⟩
set_option maxHeartbeats 4000000 in
set_option maxRecDepth 100000 in
theorem isSame_gw (p q : TP) (w : World) (hp : RdT w p) (hq : RdT w q) :
    Calls Tryz.prog 53 #[tv p, tv q] w fun e w' => e = .returned (.bool (sameT p.tu q.tu)) ∧ Gw w w' := by
  have HP := Lib.hid hp
  have HQ := Lib.hid hq
  clear hp hq
  have hc := fun w2 (h : Ext w w2) => compT_gw p q w2 (HP.out.ext h) (HQ.out.ext h)
  have hS := sameT_eq p.tu q.tu
  obtain ⟨⟨xa, xn, xc, xb, xm, xd⟩, xr, pa, pb⟩ := p
  obtain ⟨⟨ya, yn, yc, yb, ym, yd⟩, yr, qa, qb⟩ := q
  simp only [Hd.x, Hd.y, tv] at hc hS
  clear HP HQ
  generalize sameT ⟨xr, pa, pb⟩ ⟨yr, qa, qb⟩ = bb at *
  generalize cmpW xr yr = r at *
  have HC := Lib.hid hc
  clear hc
  by_cases he : pa = qa ∧ pb = qb
  · obtain ⟨rfl, rfl⟩ := he
    have HS := Lib.hid (show bb = decide (r = 0) by simpa using hS)
    clear hS
    go_enter Tryz.func53, Tryz.ntmps53
    go_wp2_with fail
    refine (HC.out _ (gw2 _ _ _).ext).mono ?_; rintro e w1 ⟨rfl, hg⟩
    go_wp2_with fail
    go_ret
    exact ⟨ret_bool (by rw [HS.out]; first | rfl | (rw [Bool.eq_iff_iff]; simp)), (gw2 _ _ _).trans hg⟩
  · have HS := Lib.hid (show bb = false by rw [hS]; simp [he])
    clear hS
    go_enter Tryz.func53, Tryz.ntmps53
    go_wp2_with fail
    all_goals
      go_ret
      exact ⟨ret_bool HS.out.symm, gw2 _ _ _⟩
end Go.Proofs.YtcankdikbnllkaaGreat
