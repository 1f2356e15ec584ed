/- Columns, of the program. -/
import Derived.Test.YtdamlnfjhpmpmaaEv5
import Derived.Test.YtdamlnfjhpmpmaaShS
namespace Go.Proofs.Ytdamlnfjhpmpmaa
open Go.ChangeShapes Go.WideShapes Go.ChangeAt Go.RowKit
open Go.Sort (grow)

theorem holdsI {e : TypeId} {W w : World} {g cap : Nat} {l : List Int} (h : OwnG e W w (.slice (some ⟨g, 0, none⟩) l.length cap) l) : Go.Sort.Holds (Value.int .i64) w g 0 l.toArray := by
  intro j hj
  have hj' : j < l.length := by simpa using hj
  refine ⟨?_, by rw [Nat.zero_add]; exact h.1.frozenAt j⟩
  have hz : Enc.sz Int = 1 := rfl
  rw [Nat.zero_add, h.1.cellAt j (by rw [hz, Nat.mul_one]; exact hj'), cellsI, List.getElem?_map, List.getElem?_eq_getElem hj', getElem!_pos l.toArray j hj]
  simp
theorem own_put {e : TypeId} {W w : World} {g cap : Nat} {l l' : List Int} (h : OwnG e W w (.slice (some ⟨g, 0, none⟩) l.length cap) l) (hl : l'.length = l.length) (n : Nat) (os : Array Obj) :
    OwnG e W (grow (Go.Sort.putRow (Value.int .i64) (Go.Sort.ahead w n) g 0 l'.toArray) os) (.slice (some ⟨g, 0, none⟩) l'.length cap) l' := by
  have ho := h.1
  have hz : Enc.sz Int = 1 := rfl
  rcases ho.2 with ⟨h', _⟩ | ⟨g', cap', cur, h', hb, hg, hnc, hcm, hcs, htake⟩
  · simp at h'
  · simp only [Value.slice.injEq, Option.some.injEq, Addr.mk.injEq, and_true, true_and] at h'
    obtain ⟨rfl, rfl⟩ := h'
    have hlt : g < w.heap.size := (Array.getElem?_eq_some_iff.1 hg).1
    have hgrow : w.grownBy (grow (Go.Sort.putRow (Value.int .i64) (Go.Sort.ahead w n) g 0 l'.toArray) os) (some g) := by
      refine ⟨rfl, rfl, rfl, ?_, fun k hk hne => ?_⟩
      · show w.heap.size ≤ ((w.heap.modify g _) ++ os).size
        simp
      · show ((w.heap.modify g _) ++ os)[k]? = _
        rw [Array.getElem?_append_left (by simpa using hk), Array.getElem?_modify, if_neg (fun e => hne (by rw [e]))]
    refine h.grow hgrow ⟨by rw [cellsG_len], .inr ⟨g, cap, Go.Sort.putCells (Value.int .i64) 0 l'.toArray cur, rfl, hb, ?_, by omega, hcm, by simp [Go.Sort.putCells, hcs], ?_⟩⟩
    · show ((w.heap.modify g _) ++ os)[g]? = _
      rw [Array.getElem?_append_left (by simpa using hlt), Array.getElem?_modify, if_pos rfl, hg]
      rfl
    · have hs : l'.length * 1 ≤ cur.size := by rw [hcs, hl, hz]; exact Nat.mul_le_mul_right _ hnc
      apply List.ext_getElem?
      intro j
      rw [hz, List.getElem?_take, cellsI, List.getElem?_map]
      by_cases hj : j < l'.length * 1
      · rw [if_pos hj]
        have hj' : j < l'.length := by omega
        rw [Array.getElem?_toList, Go.Sort.putCells, Array.getElem?_mapIdx, Array.getElem?_eq_getElem (by omega), Option.map_some, if_pos ⟨Nat.zero_le _, by simpa using hj'⟩, List.getElem?_eq_getElem hj', Nat.sub_zero, getElem!_pos l'.toArray j (by simpa using hj')]
        simp
      · rw [if_neg hj, List.getElem?_eq_none (by omega)]; rfl
theorem own_put0 {e : TypeId} {W w : World} {g cap : Nat} {l l' : List Int} (h : OwnG e W w (.slice (some ⟨g, 0, none⟩) l.length cap) l) (hl : l'.length = l.length) (n : Nat) :
    OwnG e W (Go.Sort.putRow (Value.int .i64) (Go.Sort.ahead w n) g 0 l'.toArray) (.slice (some ⟨g, 0, none⟩) l'.length cap) l' := by
  have := own_put h hl n #[]
  have e : ∀ X : World, grow X #[] = X := fun X => by cases X; simp [grow]
  rw [e] at this
  exact this
theorem sort_I (e : TypeId) (W w : World) (v : Value) (l : List Int) (hO : OwnG e W w v l) (hlen : l.length ≤ 1000) :
    Calls Try.prog 27 #[v] w fun e' w' => e' = .returned (.tuple #[]) ∧ OwnG e W w' v (l.mergeSort fun x y => decide (x ≤ y)) := by
  rcases hO.1.2 with ⟨rfl, h0⟩ | ⟨g, cap, cur, rfl, hb, hg, hnc, hcm, hcs, htake⟩
  · refine (Try.slices_Sort_int_none none 0 w).mono ?_
    rintro e w' ⟨rfl, rfl⟩
    obtain rfl : l = [] := List.eq_nil_of_length_eq_zero h0
    exact ⟨rfl, by simpa using hO⟩
  · have hlt : g < w.heap.size := (Array.getElem?_eq_some_iff.1 hg).1
    refine (Try.slices_Sort_int g 0 cap l w (holdsI hO) hlt (by omega)).mono ?_
    rintro e w' ⟨rfl, n, os, rfl⟩
    have hl : (l.mergeSort fun x y => decide (x ≤ y)).length = l.length := List.length_mergeSort _
    have := own_put hO hl n os
    rw [hl] at this
    exact ⟨rfl, this⟩
theorem cut_I (e : TypeId) (W w : World) (v : Value) (l : List Int) (hO : OwnG e W w v l) (hlen : l.length ≤ 1000) :
    Calls Try.prog 28 #[v] w fun e' w' => ∃ v', e' = .returned v' ∧ RdG w' v' (Lib.compact l) ∧ Ext W w' := by
  rcases hO.1.2 with ⟨rfl, h0⟩ | ⟨g, cap, cur, rfl, hb, hg, hnc, hcm, hcs, htake⟩
  · refine (Try.slices_Compact_int_empty none 0 w).mono ?_
    rintro e w' ⟨rfl, rfl⟩
    obtain rfl : l = [] := List.eq_nil_of_length_eq_zero h0
    exact ⟨_, rfl, rdG_nil _, hO.2⟩
  · refine (Try.slices_Compact_int g 0 cap l w (holdsI hO) (by omega) hnc).mono ?_
    rintro e w' ⟨rfl, q, rfl⟩
    have hle : (Lib.compact l).length ≤ l.length := by unfold Lib.compact Lib.compactUpTo; rw [List.length_map]; exact Nat.le_trans (List.length_filter_le _ _) (by simp)
    have hl : (Lib.compact l ++ List.replicate (l.length - (Lib.compact l).length) 0).length = l.length := by simp; omega
    have := own_put0 hO hl q
    refine ⟨_, rfl, ?_, this.2⟩
    have h2 := this.rd.take (Lib.compact l).length (by rw [hl]; exact hle)
    rw [List.take_left'] at h2
    · exact h2
    · rfl
/-- what Columns returns -/
def ColP (l : List X) (root : Int) (w : World) (e : Ending) (w' : World) : Prop := ∃ v cs, e = .returned v ∧ RdG w' v cs ∧ Ext w w' ∧ Asc cs ∧ ∀ c, c ∈ cs ↔ isIx root l.length = true ∧ Uses l root.toNat c
def ClR (W : World) (l : List X) (r : Nat) (v i : Value) (wr : World) : Prop := ∃ k : Nat, k ≤ r + 1 ∧ i = .int .i64 k ∧ OwnG tI.e W wr v (clP l (rea l r) k)
theorem clP_no (l : List X) (R : List Bool) (k : Nat) (h : R.getD k false = false ∨ (l.getD k nulX).op ≠ 2) : clP l R (k + 1) = clP l R k := by
  rw [clP_succ, if_neg (by rintro ⟨a, b⟩; rcases h with h | h; (rw [h] at a; cases a); exact h b), List.append_nil]
theorem clP_yes (l : List X) (R : List Bool) (k : Nat) (h : R.getD k false = true) (h2 : (l.getD k nulX).op = 2) : clP l R (k + 1) = clP l R k ++ [(l.getD k nulX).col] := by
  rw [clP_succ, if_pos ⟨h, h2⟩]
set_option maxHeartbeats 4000000 in
set_option maxRecDepth 100000 in
theorem col_no (l : List X) (root : Int) (vl : Value) (w : World) (hl : RdG w vl l) (hb : isIx root l.length = false) :
    Calls Try.prog 18 #[vl, .int .i64 root] w (ColP l root w) := by
  obtain ⟨al, cl, rfl, ll1, ll2⟩ := hl.shape
  have hI := isx_prg root l.length
  have HB := Lib.hid hb
  rw [hb] at hI
  have HI := Lib.hid hI
  clear hI hb hl ll1 ll2
  go_enter Try.func18, Try.ntmps18
  go_wp2_with fail
  refine (HI.out _).mono ?_; rintro e w1 ⟨rfl, rfl⟩
  go_wp2_with fail
  go_ret
  exact ⟨_, [], rfl, rdG_nil _, Ext.refl _, List.Pairwise.nil, fun c => ⟨fun h => (by cases h), fun h => (by have h1 := h.1; rw [HB.out] at h1; cases h1)⟩⟩
set_option maxHeartbeats 4000000 in
set_option maxRecDepth 100000 in
theorem col_yes (l : List X) (r : Nat) (vl : Value) (w : World) (hl : RdG w vl l) (hr : r < l.length) (hs : l.length ≤ 1000) :
    Calls Try.prog 18 #[vl, .int .i64 r] w (ColP l r w) := by
  have hi := isx_prg r l.length
  have hix := (isIx_iff r l.length).2 ⟨by omega, by omega⟩
  rw [hix] at hi
  have HIX := Lib.hid hix
  have hRe := fun w' h => rea_prg l r vl w' h hr hs
  obtain ⟨al, cl, rfl, ll1, ll2⟩ := hl.shape
  have HL := Lib.hid hl
  have HI := Lib.hid hi
  have HRe := Lib.hid hRe
  clear hl hi hRe hix
  unfold maxLen at ll2
  obtain ⟨n, hn⟩ : ∃ n, n = l.length := ⟨_, rfl⟩
  have HN := Lib.hid hn
  rw [← hn] at HL HI HRe ll1 hr hs ⊢
  clear hn
  go_enter Try.func18, Try.ntmps18
  go_wp2_with fail
  refine (HI.out _).mono ?_; rintro e w1 ⟨rfl, rfl⟩
  go_wp2_with fail
  refine (HRe.out _ HL.out).mono ?_; rintro e w1 ⟨rfl, hA⟩
  have HB := Lib.hid hA.rd
  rw [rea_len] at HB
  have HE1 := Lib.hid hA.2
  have hw1 : w.heap.size < w1.heap.size := hA.lo.2
  have HL1 := Lib.hid (HL.out.ext hA.2)
  clear hA
  go_wp2_with fail
  go_loopw [5, 17] (ClR w1 l r) (fun _ i _ => r + 1 - (intOf i).toNat)
  case atStart => exact ⟨0, by omega, rfl, OwnG.nil _ _ _ (Ext.refl _)⟩
  case round =>
    obtain ⟨k, hk, rfl, hO⟩ := hrel
    have hrn : r < l.length := by rw [← HN.out]; exact hr
    have hcl : (clP l (rea l r) k).length ≤ 1000 := by have := clP_len l (rea l r) k; omega
    have HCL := Lib.hid hcl
    clear hcl
    by_cases hlt : k < r + 1
    · have hkl : k < l.length := by omega
      have hi1 : (k : Int) < (r : Int) + 1 := by omega
      have hi0 : (0 : Int) ≤ (k : Int) := by omega
      have hi4 : (k : Int) < ((r + 1 : Nat) : Int) := by omega
      have hi5 : (k : Int) < (n : Int) := by omega
      obtain ⟨g, o, rfl, c0, c1, c2, c3, c4, c5, c6⟩ := rd_X HL1.out k hkl
      have hgl : g < w1.heap.size := World.block_lt_of_cell? _ _ c0
      obtain ⟨gb, ob, hgb, cb⟩ := rd_B HB.out k (by rw [rea_len]; exact hlt)
      injection hgb with hgb
      injection hgb with hgb1 hgb2
      subst hgb1 hgb2
      rw [← getD_at (rea l r) false k (by rw [rea_len]; exact hlt), Nat.zero_add] at cb
      have C0 := hO.2.keeps c0
      have C3 := hO.2.keeps c3
      have CB := hO.2.keeps cb
      have hxk := getD_at l nulX k hkl
      have hno := clP_no l (rea l r) k
      have hyes := clP_yes l (rea l r) k
      rw [hxk] at hno hyes
      clear c0 c1 c2 c3 c4 c5 c6 cb hxk
      generalize l[k] = x at *
      obtain ⟨xop, xa, xb, xc, xv⟩ := x
      simp only at C0 C3 hno hyes
      cases hbv : (rea l r).getD k false with
      | false =>
        rw [hbv] at CB
        have H1 := Lib.hid (hno (.inl hbv))
        clear hno hyes hbv
        go_wp2_with fail
        go_roundw
        case rel => exact ⟨k + 1, by omega, by go_num, by rw [H1.out]; exact hO⟩
        case measure => simp [intOf]; omega
      | true =>
        rw [hbv] at CB
        by_cases h2 : xop = 2
        · subst h2
          have H1 := Lib.hid (hyes hbv rfl)
          clear hno hyes hbv
          go_wp2_with (at_builtin; refine appG tI rfl _ _ rfl w1 _ (clP l (rea l r) k) rfl (hO.ext ((Ext.refl _).alloc _ _)) _ [xc] rfl (rd_lit1I _ xc _ _ rfl) (by have := HCL.out; simp; omega) ?_; intro v' w' hO' hg')
          go_roundw
          case rel => exact ⟨k + 1, by omega, by go_num, by rw [H1.out]; exact hO'⟩
          case measure => simp [intOf]; omega
        · have H1 := Lib.hid (hno (.inr h2))
          have h2' : (xop == 2) = false := by simpa using h2
          clear hno hyes hbv
          go_wp2_with fail
          go_roundw
          case rel => exact ⟨k + 1, by omega, by go_num, by rw [H1.out]; exact hO⟩
          case measure => simp [intOf]; omega
    · have hke : k = r + 1 := by omega
      subst hke
      have hend : decide (((r + 1 : Nat) : Int) < (r : Int) + 1) = false := by simp
      have hend2 : decide (((r + 1 : Nat) : Int) < ((r + 1 : Nat) : Int)) = false := by simp
      have HO := Lib.hid hO
      clear hO
      go_wp2_with fail
      refine (sort_I tI.e w1 _ _ _ HO.out HCL.out).mono ?_; rintro e w2 ⟨rfl, hO2⟩
      have HO2 := Lib.hid hO2
      clear hO2
      go_wp2_with fail
      refine (cut_I tI.e w1 _ _ _ HO2.out (by rw [List.length_mergeSort]; exact HCL.out)).mono ?_; rintro e w3 ⟨v3, rfl, hR3, hE3⟩
      have HR3 := Lib.hid hR3
      clear hR3
      go_wp2_with fail
      go_ret
      have hsc := sort_cut (clP l (rea l r) (r + 1))
      exact ⟨_, _, rfl, HR3.out, HE1.out.trans hE3, hsc.1, fun c => (hsc.2 c).trans ((clP_mem l r c).trans ⟨fun h => ⟨HIX.out, h⟩, fun h => h.2⟩)⟩
theorem col_prg (l : List X) (root : Int) (vl : Value) (w : World) (hl : RdG w vl l) (hs : l.length ≤ 1000) :
    Calls Try.prog 18 #[vl, .int .i64 root] w (ColP l root w) := by
  cases hb : isIx root l.length with
  | false => exact col_no l root vl w hl hb
  | true =>
    have h := (isIx_iff _ _).1 hb
    obtain ⟨r, rfl⟩ := nat_of h.1
    exact col_yes l r vl w hl (by omega) hs
end Go.Proofs.Ytdamlnfjhpmpmaa
