/- Contracts of the library at this program, each one application of the library's own. -/
import Derived.Shelf.Small.Bits
import Derived.Shelf.Small.Strs
import Derived.Shelf.Small.Wraps
import Derived.Shelf.Strconv.Itoa0
import Derived.Shelf.Strconv.Itoa1
import Derived.Shelf.LaysM
import Derived.Shelf.Strconv.Itoa2
import Derived.Shelf.Sort.Plain
import Derived.Shelf.Strconv.AppendUint10
import Derived.Shelf.Strconv.AppendInt10
import Derived.Shelf.Strconv.AppendIntPublic10
import Derived.Shelf.Bits.Mul64
import Derived.Ground.Names2Prog
import Derived.Shelf.Slices.CompactI
import Derived.Shelf.Slices.Cells
import Derived.Shelf.Slices.In.SortNone
import Derived.Ground.SlgcProg
import Derived.Shelf.SlicesG.Cmp
import Derived.Test.YtfojeajmonnifaaGreatDoorProg
import Derived.Shelf.Spec.SlicesGrow
import Derived.Test.YtfojeajmonnifaaGreatDoorZz02
import Derived.Test.YtfojeajmonnifaaGreatDoorZz04
namespace Go.Proofs
open Go.Shelf
def Tryz.lays189_ren : Go.Shelf.Ren := ⟨fun | 189 => 63 | 125 => 90 | 257 => 89 | 128 => 127 | 129 => 128 | 294 => 118 | 295 => 119 | 296 => 120 | 297 => 121 | 298 => 122 | 299 => 123 | 216 => 124 | 300 => 125 | 301 => 126 | 328 => 162 | 329 => 163 | 330 => 164 | 331 => 165 | 332 => 166 | 215 => 159 | 343 => 184 | n => n, fun | 28 => 29 | 3 => 3 | 46 => 147 | 0 => 0 | 51 => 178 | 53 => 180 | 4 => 4 | 183 => 170 | 182 => 169 | 131 => 175 | 5 => 5 | 9 => 9 | 218 => 211 | 222 => 215 | 228 => 229 | 229 => 150 | n => n, fun | n => n⟩
theorem Tryz.lays189 : Go.Proofs.Lays.n189 Tryz.prog Tryz.lays189_ren := {
  mixed := by kernel_rfl
  f125 := Tryz.func90.trans (congrArg some (by kernel_rfl))
  f128 := Tryz.func127.trans (congrArg some (by kernel_rfl))
  f129 := Tryz.func128.trans (congrArg some (by kernel_rfl))
  f189 := Tryz.func63.trans (congrArg some (by kernel_rfl))
  f215 := Tryz.func159.trans (congrArg some (by kernel_rfl))
  f216 := Tryz.func124.trans (congrArg some (by kernel_rfl))
  f257 := Tryz.func89.trans (congrArg some (by kernel_rfl))
  f294 := Tryz.func118.trans (congrArg some (by kernel_rfl))
  f295 := Tryz.func119.trans (congrArg some (by kernel_rfl))
  f296 := Tryz.func120.trans (congrArg some (by kernel_rfl))
  f297 := Tryz.func121.trans (congrArg some (by kernel_rfl))
  f298 := Tryz.func122.trans (congrArg some (by kernel_rfl))
  f299 := Tryz.func123.trans (congrArg some (by kernel_rfl))
  f300 := Tryz.func125.trans (congrArg some (by kernel_rfl))
  f301 := Tryz.func126.trans (congrArg some (by kernel_rfl))
  f328 := Tryz.func162.trans (congrArg some (by kernel_rfl))
  f329 := Tryz.func163.trans (congrArg some (by kernel_rfl))
  f330 := Tryz.func164.trans (congrArg some (by kernel_rfl))
  f331 := Tryz.func165.trans (congrArg some (by kernel_rfl))
  f332 := Tryz.func166.trans (congrArg some (by kernel_rfl))
  f343 := Tryz.func184.trans (congrArg some (by kernel_rfl))
  t0 := Tryz.underlying0
  a0 := Tryz.isAgg0
  z0 := Tryz.sizeOf0
  v0 := Tryz.zeroValue0
  t3 := Tryz.underlying3
  a3 := Tryz.isAgg3
  z3 := Tryz.sizeOf3
  v3 := Tryz.zeroValue3
  t4 := Tryz.underlying4
  a4 := Tryz.isAgg4
  z4 := Tryz.sizeOf4
  v4 := Tryz.zeroValue4
  t5 := Tryz.underlying5
  a5 := Tryz.isAgg5
  z5 := Tryz.sizeOf5
  v5 := Tryz.zeroValue5
  t9 := Tryz.underlying9
  a9 := Tryz.isAgg9
  z9 := Tryz.sizeOf9
  v9 := Tryz.zeroValue9
  t28 := Tryz.underlying29
  a28 := Tryz.isAgg29
  z28 := Tryz.sizeOf29
  v28 := Tryz.zeroValue29
  t46 := Tryz.underlying147
  a46 := Tryz.isAgg147
  z46 := Tryz.sizeOf147
  v46 := Tryz.zeroValue147
  t51 := Tryz.underlying178
  a51 := Tryz.isAgg178
  z51 := Tryz.sizeOf178
  v51 := Tryz.zeroValue178
  t53 := Tryz.underlying180
  a53 := Tryz.isAgg180
  z53 := Tryz.sizeOf180
  v53 := Tryz.zeroValue180
  t131 := Tryz.underlying175
  a131 := Tryz.isAgg175
  z131 := Tryz.sizeOf175
  v131 := Tryz.zeroValue175
  t182 := Tryz.underlying169
  a182 := Tryz.isAgg169
  z182 := Tryz.sizeOf169
  v182 := Tryz.zeroValue169
  t183 := Tryz.underlying170
  a183 := Tryz.isAgg170
  z183 := Tryz.sizeOf170
  v183 := Tryz.zeroValue170
  t218 := Tryz.underlying211
  a218 := Tryz.isAgg211
  z218 := Tryz.sizeOf211
  v218 := Tryz.zeroValue211
  t222 := Tryz.underlying215
  a222 := Tryz.isAgg215
  z222 := Tryz.sizeOf215
  v222 := Tryz.zeroValue215
  t228 := Tryz.underlying229
  a228 := Tryz.isAgg229
  z228 := Tryz.sizeOf229
  v228 := Tryz.zeroValue229
  t229 := Tryz.underlying150
  a229 := Tryz.isAgg150
  z229 := Tryz.sizeOf150
  v229 := Tryz.zeroValue150 }
open Go.Sort Go.RowKit in
theorem Tryz.slices_Sort_int (blk off cap : Nat) (zs : List Int) (w : World) (hH : Holds (Value.int .i64) w blk off zs.toArray) (hblk : blk < w.heap.size) (hsz : zs.length < 4611686018427387904) :
    Calls Tryz.prog 63 #[.slice (some ⟨blk, off, none⟩) zs.length cap] w fun e w' =>
      e = .returned (.tuple #[]) ∧ ∃ n os, w' = grow (putRow (Value.int .i64) (Sort.ahead w n) blk off (zs.mergeSort fun x y => decide (x ≤ y)).toArray) os := Any.slices_Sort_int Tryz.lays189 blk off cap zs w hH hblk hsz
def Tryz.laysNm220_ren : Go.Shelf.Ren := ⟨fun | 20 => 64 | n => n, fun | 22 => 29 | 3 => 3 | 4 => 4 | 0 => 0 | n => n, fun | n => n⟩
theorem Tryz.laysNm220 : Go.Proofs.Lays2.n20 Tryz.prog Tryz.laysNm220_ren := {
  mixed := by kernel_rfl
  f20 := Tryz.func64.trans (congrArg some (by kernel_rfl))
  t0 := Tryz.underlying0
  a0 := Tryz.isAgg0
  z0 := Tryz.sizeOf0
  v0 := Tryz.zeroValue0
  t3 := Tryz.underlying3
  a3 := Tryz.isAgg3
  z3 := Tryz.sizeOf3
  v3 := Tryz.zeroValue3
  t4 := Tryz.underlying4
  a4 := Tryz.isAgg4
  z4 := Tryz.sizeOf4
  v4 := Tryz.zeroValue4
  t22 := Tryz.underlying29
  a22 := Tryz.isAgg29
  z22 := Tryz.sizeOf29
  v22 := Tryz.zeroValue29
  i3 := by kernel_rfl }
open Go.RowKit Go.Lib Go.Sort in
theorem Tryz.slices_Compact_int (blk off cap : Nat) (zs : List Int) (w : World) (hH : Holds (Value.int .i64) w blk off zs.toArray) (hsz : zs.length ≤ 9223372036854775807) (hcap : zs.length ≤ cap) :
    Calls Tryz.prog 64 #[.slice (some ⟨blk, off, none⟩) zs.length cap] w fun e w' => e = .returned (.slice (some ⟨blk, off, none⟩) (Lib.compact zs).length cap) ∧ ∃ q, w' = putRow (Value.int .i64) (Sort.ahead w q) blk off (Lib.compact zs ++ List.replicate (zs.length - (Lib.compact zs).length) 0).toArray := Any.slices_Compact_int Tryz.laysNm220 blk off cap zs w hH hsz hcap
open Go.RowKit Go.Lib Go.Sort in
theorem Tryz.slices_Compact_int_empty (a : Option Addr) (cap : Nat) (w : World) :
    Calls Tryz.prog 64 #[.slice a 0 cap] w fun e w' => e = .returned (.slice a 0 cap) ∧ w' = w := Any.slices_Compact_int_empty Tryz.laysNm220 a cap w
open Go.RowKit Go.Sort in
theorem Tryz.slices_Sort_int_none (p : Option Addr) (cap : Nat) (w : World) :
    Calls Tryz.prog 63 #[.slice p 0 cap] w fun e w' => e = .returned (.tuple #[]) ∧ w' = w := Any.slices_Sort_int_none Tryz.lays189 p cap w
end Go.Proofs
/- Rows of numbers: sorted, compacted. -/
namespace Go.Proofs.YtfojeajmonnifaaGreatDoor
open Go.ChangeShapes Go.WideShapes Go.ChangeAt Go.RowKit
open Go.Sort (grow)

theorem holdsI {e : TypeId} {W w : World} {g cap : Nat} {l : List Int} (h : OwnG e W w (.slice (some ⟨g, 0, none⟩) l.length cap) l) : Go.Sort.Holds (Value.int .i64) w g 0 l.toArray := by
  intro j hj
  have hj' : j < l.length := by simpa using hj
  refine ⟨?_, by rw [Nat.zero_add]; exact h.1.frozenAt j⟩
  have hz : Enc.sz Int = 1 := rfl
  rw [Nat.zero_add, h.1.cellAt j (by rw [hz, Nat.mul_one]; exact hj'), cellsI, List.getElem?_map, List.getElem?_eq_getElem hj', getElem!_pos l.toArray j hj]
  simp
theorem own_put {e : TypeId} {W w : World} {g cap : Nat} {l l' : List Int} (h : OwnG e W w (.slice (some ⟨g, 0, none⟩) l.length cap) l) (hl : l'.length = l.length) (n : Nat) (os : Array Obj) :
    OwnG e W (grow (Go.Sort.putRow (Value.int .i64) (Go.Sort.ahead w n) g 0 l'.toArray) os) (.slice (some ⟨g, 0, none⟩) l'.length cap) l' := by
  have ho := h.1
  have hz : Enc.sz Int = 1 := rfl
  rcases ho.2 with ⟨h', _⟩ | ⟨g', cap', cur, h', hb, hg, hnc, hcm, hcs, htake⟩
  · simp at h'
  · simp only [Value.slice.injEq, Option.some.injEq, Addr.mk.injEq, and_true, true_and] at h'
    obtain ⟨rfl, rfl⟩ := h'
    have hlt : g < w.heap.size := (Array.getElem?_eq_some_iff.1 hg).1
    have hgrow : w.grownBy (grow (Go.Sort.putRow (Value.int .i64) (Go.Sort.ahead w n) g 0 l'.toArray) os) (some g) := by
      refine ⟨rfl, rfl, rfl, ?_, fun k hk hne => ?_⟩
      · show w.heap.size ≤ ((w.heap.modify g _) ++ os).size
        simp
      · show ((w.heap.modify g _) ++ os)[k]? = _
        rw [Array.getElem?_append_left (by simpa using hk), Array.getElem?_modify, if_neg (fun e => hne (by rw [e]))]
    refine h.grow hgrow ⟨by rw [cellsG_len], .inr ⟨g, cap, Go.Sort.putCells (Value.int .i64) 0 l'.toArray cur, rfl, hb, ?_, by omega, hcm, by simp [Go.Sort.putCells, hcs], ?_⟩⟩
    · show ((w.heap.modify g _) ++ os)[g]? = _
      rw [Array.getElem?_append_left (by simpa using hlt), Array.getElem?_modify, if_pos rfl, hg]
      rfl
    · have hs : l'.length * 1 ≤ cur.size := by rw [hcs, hl, hz]; exact Nat.mul_le_mul_right _ hnc
      apply List.ext_getElem?
      intro j
      rw [hz, List.getElem?_take, cellsI, List.getElem?_map]
      by_cases hj : j < l'.length * 1
      · rw [if_pos hj]
        have hj' : j < l'.length := by omega
        rw [Array.getElem?_toList, Go.Sort.putCells, Array.getElem?_mapIdx, Array.getElem?_eq_getElem (by omega), Option.map_some, if_pos ⟨Nat.zero_le _, by simpa using hj'⟩, List.getElem?_eq_getElem hj', Nat.sub_zero, getElem!_pos l'.toArray j (by simpa using hj')]
        simp
      · rw [if_neg hj, List.getElem?_eq_none (by omega)]; rfl
theorem own_put0 {e : TypeId} {W w : World} {g cap : Nat} {l l' : List Int} (h : OwnG e W w (.slice (some ⟨g, 0, none⟩) l.length cap) l) (hl : l'.length = l.length) (n : Nat) :
    OwnG e W (Go.Sort.putRow (Value.int .i64) (Go.Sort.ahead w n) g 0 l'.toArray) (.slice (some ⟨g, 0, none⟩) l'.length cap) l' := by
  have := own_put h hl n #[]
  have e : ∀ X : World, grow X #[] = X := fun X => by cases X; simp [grow]
  rw [e] at this
  exact this
theorem sort_I (e : TypeId) (W w : World) (v : Value) (l : List Int) (hO : OwnG e W w v l) (hlen : l.length ≤ 100000000) :
    Calls Tryz.prog 63 #[v] w fun e' w' => e' = .returned (.tuple #[]) ∧ OwnG e W w' v (l.mergeSort fun x y => decide (x ≤ y)) := by
  rcases hO.1.2 with ⟨rfl, h0⟩ | ⟨g, cap, cur, rfl, hb, hg, hnc, hcm, hcs, htake⟩
  · refine (Tryz.slices_Sort_int_none none 0 w).mono ?_
    rintro e w' ⟨rfl, rfl⟩
    obtain rfl : l = [] := List.eq_nil_of_length_eq_zero h0
    exact ⟨rfl, by simpa using hO⟩
  · have hlt : g < w.heap.size := (Array.getElem?_eq_some_iff.1 hg).1
    refine (Tryz.slices_Sort_int g 0 cap l w (holdsI hO) hlt (by omega)).mono ?_
    rintro e w' ⟨rfl, n, os, rfl⟩
    have hl : (l.mergeSort fun x y => decide (x ≤ y)).length = l.length := List.length_mergeSort _
    have := own_put hO hl n os
    rw [hl] at this
    exact ⟨rfl, this⟩
theorem cut_I (e : TypeId) (W w : World) (v : Value) (l : List Int) (hO : OwnG e W w v l) (hlen : l.length ≤ 100000000) :
    Calls Tryz.prog 64 #[v] w fun e' w' => ∃ v', e' = .returned v' ∧ RdG w' v' (Lib.compact l) ∧ Ext W w' := by
  rcases hO.1.2 with ⟨rfl, h0⟩ | ⟨g, cap, cur, rfl, hb, hg, hnc, hcm, hcs, htake⟩
  · refine (Tryz.slices_Compact_int_empty none 0 w).mono ?_
    rintro e w' ⟨rfl, rfl⟩
    obtain rfl : l = [] := List.eq_nil_of_length_eq_zero h0
    exact ⟨_, rfl, rdG_nil _, hO.2⟩
  · refine (Tryz.slices_Compact_int g 0 cap l w (holdsI hO) (by omega) hnc).mono ?_
    rintro e w' ⟨rfl, q, rfl⟩
    have hle : (Lib.compact l).length ≤ l.length := by unfold Lib.compact Lib.compactUpTo; rw [List.length_map]; exact Nat.le_trans (List.length_filter_le _ _) (by simp)
    have hl : (Lib.compact l ++ List.replicate (l.length - (Lib.compact l).length) 0).length = l.length := by simp; omega
    have := own_put0 hO hl q
    refine ⟨_, rfl, ?_, this.2⟩
    have h2 := this.rd.take (Lib.compact l).length (by rw [hl]; exact hle)
    rw [List.take_left'] at h2
    · exact h2
    · rfl
end Go.Proofs.YtfojeajmonnifaaGreatDoor
/- Where the library's generic functions lie in this program. -/
namespace Go.Proofs
open Go.Shelf
def Tryz.growI_ren : Go.Shelf.Ren := ⟨fun | 4 => 88 | n => n, fun | 22 => 29 | 25 => 3 | 3 => 3 | 4 => 4 | 9 => 9 | 20 => 20 | 0 => 0 | n => n, fun | n => n⟩
theorem Tryz.growI : Go.Proofs.Lays8.n4 Tryz.prog Tryz.growI_ren := {
  mixed := by kernel_rfl
  f4 := ⟨Tryz.f88.name, by decide, Tryz.func88.trans (congrArg some (by kernel_rfl))⟩
  t0 := Tryz.underlying0
  a0 := Tryz.isAgg0
  z0 := Tryz.sizeOf0
  v0 := Tryz.zeroValue0
  t3 := Tryz.underlying3
  a3 := Tryz.isAgg3
  z3 := Tryz.sizeOf3
  v3 := Tryz.zeroValue3
  t4 := Tryz.underlying4
  a4 := Tryz.isAgg4
  z4 := Tryz.sizeOf4
  v4 := Tryz.zeroValue4
  t9 := Tryz.underlying9
  a9 := Tryz.isAgg9
  z9 := Tryz.sizeOf9
  v9 := Tryz.zeroValue9
  t20 := Tryz.underlying20
  a20 := Tryz.isAgg20
  z20 := Tryz.sizeOf20
  v20 := Tryz.zeroValue20
  t22 := Tryz.underlying29
  a22 := Tryz.isAgg29
  z22 := Tryz.sizeOf29
  v22 := Tryz.zeroValue29 }
def Tryz.growP_ren : Go.Shelf.Ren := ⟨fun | 4 => 139 | n => n, fun | 22 => 40 | 25 => 67 | 3 => 3 | 4 => 4 | 9 => 9 | 20 => 20 | 0 => 0 | n => n, fun | n => n⟩
theorem Tryz.growP : Go.Proofs.Lays8.n4 Tryz.prog Tryz.growP_ren := {
  mixed := by kernel_rfl
  f4 := ⟨Tryz.f139.name, by decide, Tryz.func139.trans (congrArg some (by kernel_rfl))⟩
  t0 := Tryz.underlying0
  a0 := Tryz.isAgg0
  z0 := Tryz.sizeOf0
  v0 := Tryz.zeroValue0
  t3 := Tryz.underlying3
  a3 := Tryz.isAgg3
  z3 := Tryz.sizeOf3
  v3 := Tryz.zeroValue3
  t4 := Tryz.underlying4
  a4 := Tryz.isAgg4
  z4 := Tryz.sizeOf4
  v4 := Tryz.zeroValue4
  t9 := Tryz.underlying9
  a9 := Tryz.isAgg9
  z9 := Tryz.sizeOf9
  v9 := Tryz.zeroValue9
  t20 := Tryz.underlying20
  a20 := Tryz.isAgg20
  z20 := Tryz.sizeOf20
  v20 := Tryz.zeroValue20
  t22 := Tryz.underlying40
  a22 := Tryz.isAgg40
  z22 := Tryz.sizeOf40
  v22 := Tryz.zeroValue40 }
def Tryz.growV_ren : Go.Shelf.Ren := ⟨fun | 4 => 174 | n => n, fun | 22 => 65 | 25 => 74 | 3 => 3 | 4 => 4 | 9 => 9 | 20 => 20 | 0 => 0 | n => n, fun | n => n⟩
theorem Tryz.growV : Go.Proofs.Lays8.n4 Tryz.prog Tryz.growV_ren := {
  mixed := by kernel_rfl
  f4 := ⟨Tryz.f174.name, by decide, Tryz.func174.trans (congrArg some (by kernel_rfl))⟩
  t0 := Tryz.underlying0
  a0 := Tryz.isAgg0
  z0 := Tryz.sizeOf0
  v0 := Tryz.zeroValue0
  t3 := Tryz.underlying3
  a3 := Tryz.isAgg3
  z3 := Tryz.sizeOf3
  v3 := Tryz.zeroValue3
  t4 := Tryz.underlying4
  a4 := Tryz.isAgg4
  z4 := Tryz.sizeOf4
  v4 := Tryz.zeroValue4
  t9 := Tryz.underlying9
  a9 := Tryz.isAgg9
  z9 := Tryz.sizeOf9
  v9 := Tryz.zeroValue9
  t20 := Tryz.underlying20
  a20 := Tryz.isAgg20
  z20 := Tryz.sizeOf20
  v20 := Tryz.zeroValue20
  t22 := Tryz.underlying65
  a22 := Tryz.isAgg65
  z22 := Tryz.sizeOf65
  v22 := Tryz.zeroValue65 }
end Go.Proofs
/- The program's MergeLineage. -/
namespace Go.Proofs.YtfojeajmonnifaaGreatDoor
open Go.ChangeShapes Go.WideShapes Go.ChangeAt Go.RowKit

theorem grow_I (n : Nat) (w : World) (hn : n ≤ 100000000) : Calls Tryz.prog 88 #[.slice none 0 0, .int .i64 n] w fun e w' => ∃ v, e = .returned v ∧ OwnG tI.e w w' v ([] : List Int) := by
  obtain ⟨i0, hi, hz0, hz1, hz2⟩ := info_parts tI.hi
  by_cases h0 : n = 0
  · subst h0
    have := Any8.slices_Grow_room Tryz.growI none 0 0 0 w (by omega) (by omega) (by omega) (by omega)
    refine this.mono ?_
    rintro e w' ⟨rfl, rfl⟩
    exact ⟨_, rfl, OwnG.nil _ _ _ (Ext.refl _)⟩
  · have hb : tI.bytes = 8 := rfl
    have hs : Enc.sz Int = 1 := rfl
    have := Any8.slices_Grow_grow Tryz.growI i0 (.int .i64 0) hi hz0 (by omega) none 0 0 n [] w (by omega) (by omega) (by rw [hz2, hb]; omega) (by omega) (by simp) (fun _ => rfl) (fun a h => by cases h)
    refine this.mono ?_
    rintro e w' ⟨rfl, rfl⟩
    have hge := grownCap_ge w (0 + n) 0 (Tryz.growI_ren.t 25)
    have hle := grownCap_le_maxLen w (0 + n) 0 (Tryz.growI_ren.t 25) (by unfold maxLen; omega)
    generalize grownCap w (0 + n) 0 (Tryz.growI_ren.t 25) = c at hge hle
    refine ⟨_, rfl, ⟨World.ownsRow_made w.drew _ c (Nat.le_refl _) hle ?_, ((Ext.refl w).drew).alloc _ _⟩⟩
    have hsz : (Value.int .i64 0).cells.size = 1 := rfl
    simp only [Array.size_append, size_zeroCells, hsz, List.size_toArray, List.length_nil, hs]
    omega
/-- the first k of two rows, put together -/
def catI (a b : List Int) : Nat → List Int
  | 0 => []
  | 1 => a
  | _ => a ++ b
set_option maxHeartbeats 4000000 in
theorem concat_I (a b : List Int) (va vb : Value) (g : Nat) (w : World) (ha : RdG w va a) (hb : RdG w vb b) (g0 : w.cell? ⟨g, 0, none⟩ = some va) (g1 : w.cell? ⟨g, 1, none⟩ = some vb) (hl : a.length + b.length ≤ 100000000) :
    Calls Tryz.prog 62 #[.slice (some ⟨g, 0, none⟩) 2 2] w fun e w' => ∃ v, e = .returned v ∧ OwnG tI.e w w' v (a ++ b) := by
  have GL := Lib.hid (World.block_lt_of_cell? _ _ g0)
  have HA := Lib.hid ha
  have HB := Lib.hid hb
  obtain ⟨ada, capa, rfl, _⟩ := ha.shape
  obtain ⟨adb, capb, rfl, _⟩ := hb.shape
  clear ha hb
  obtain ⟨n, hn⟩ : ∃ n, n = a.length := ⟨_, rfl⟩
  obtain ⟨m, hm⟩ : ∃ m, m = b.length := ⟨_, rfl⟩
  have HN := Lib.hid hn
  have HM := Lib.hid hm
  rw [← hn, ← hm] at hl
  rw [← hn] at g0 HA
  rw [← hm] at g1 HB
  clear hn hm
  go_enter Tryz.func62, Tryz.ntmps62
  go_wp2_with fail
  go_loopw [3, 11] (fun u i wr => w = wr ∧ ((i = .int .i64 0 ∧ u = .int .i64 0) ∨ (i = .int .i64 1 ∧ u = .int .i64 (n : Int)) ∨ (i = .int .i64 2 ∧ u = .int .i64 ((n : Int) + (m : Int))))) (fun _ i _ => 2 - (intOf i).toNat)
  case atStart => exact ⟨by trivial, Or.inl ⟨rfl, rfl⟩⟩
  case round =>
    obtain ⟨rfl, h⟩ := hrel
    rcases h with ⟨rfl, rfl⟩ | ⟨rfl, rfl⟩ | ⟨rfl, rfl⟩
    · go_wp2_with fail
      go_roundw
      case rel => exact ⟨by trivial, Or.inr (Or.inl ⟨rfl, by simp⟩)⟩
      case measure => simp [intOf]
    · go_wp2_with fail
      go_roundw
      case rel => exact ⟨by trivial, Or.inr (Or.inr ⟨rfl, rfl⟩)⟩
      case measure => simp [intOf]
    · rw [show (n : Int) + (m : Int) = ((n + m : Nat) : Int) by omega]
      go_wp2_with fail
      refine (grow_I (n + m) _ (by omega)).mono ?_
      rintro e w1 ⟨v1, rfl, hO⟩
      have G0 := hO.2.keeps g0
      have G1 := hO.2.keeps g1
      clear g0 g1
      go_wp2_with fail
      go_loopw [6, 27] (fun u i wr => ∃ k : Nat, k ≤ 2 ∧ i = .int .i64 k ∧ OwnG tI.e w wr u (catI a b k) ∧ wr.cell? ⟨g, 0, none⟩ = some (.slice ada n capa) ∧ wr.cell? ⟨g, 1, none⟩ = some (.slice adb m capb)) (fun _ i _ => 2 - (intOf i).toNat)
      case atStart => exact ⟨0, by omega, rfl, hO, G0, G1⟩
      case round =>
        obtain ⟨k, hk, rfl, hO2, q0, q1⟩ := hrel
        have gl : g < w.heap.size := GL.out
        rcases (show k = 0 ∨ k = 1 ∨ k = 2 by omega) with rfl | rfl | rfl
        · go_wp2_with (at_builtin; refine appG tI rfl _ _ rfl w _ [] rfl hO2 _ a rfl (HA.out.ext hO2.2) (by have := HN.out; simp; omega) ?_; intro v' w' hO' hg'; have r0 := hO2.far hg' gl q0; have r1 := hO2.far hg' gl q1)
          go_roundw
          case rel => exact ⟨1, by omega, rfl, hO', r0, r1⟩
          case measure => simp [intOf]
        · go_wp2_with (at_builtin; refine appG tI rfl _ _ rfl w _ a rfl hO2 _ b rfl (HB.out.ext hO2.2) (by have := HN.out; have := HM.out; omega) ?_; intro v' w' hO' hg'; have r0 := hO2.far hg' gl q0; have r1 := hO2.far hg' gl q1)
          go_roundw
          case rel => exact ⟨2, by omega, rfl, hO', r0, r1⟩
          case measure => simp [intOf]
        · go_wp2_with fail
          go_ret
          exact ⟨_, rfl, hO2⟩
/-- what MergeLineage returns -/
def MqP (a b : List Int) (w : World) (e : Ending) (w' : World) : Prop := ∃ v cs, e = .returned v ∧ RdG w' v cs ∧ Ext w w' ∧ Asc cs ∧ (∀ c, c ∈ cs ↔ c ∈ a ∨ c ∈ b) ∧ cs.length ≤ a.length + b.length
theorem comp_len (l : List Int) : (Lib.compact l).length ≤ l.length := by
  unfold Lib.compact Lib.compactUpTo
  rw [List.length_map]
  exact Nat.le_trans (List.length_filter_le _ _) (by simp)
set_option maxHeartbeats 2000000 in
theorem ml_prg (a b : List Int) (va vb : Value) (w : World) (ha : RdG w va a) (hb : RdG w vb b) (hl : a.length + b.length ≤ 100000000) : Calls Tryz.prog 34 #[va, vb] w (MqP a b w) := by
  have HA := Lib.hid ha
  have HB := Lib.hid hb
  have HL := Lib.hid hl
  obtain ⟨ada, capa, rfl, _⟩ := ha.shape
  obtain ⟨adb, capb, rfl, _⟩ := hb.shape
  clear ha hb hl
  go_enter Tryz.func34, Tryz.ntmps34
  go_wp2_with fail
  refine (concat_I a b _ _ _ _ (HA.out.ext ((Ext.refl _).alloc _ _)) (HB.out.ext ((Ext.refl _).alloc _ _)) (al0 _ _ _ _) (al1 _ _ _ _) HL.out).mono ?_
  rintro e w1 ⟨v1, rfl, hO⟩
  have hlen : (a ++ b).length ≤ 100000000 := by rw [List.length_append]; exact HL.out
  have HS := Lib.hid (sort_cut (a ++ b))
  have HO := Lib.hid hO
  have HLN := Lib.hid hlen
  have HCL := Lib.hid (show (Lib.compact ((a ++ b).mergeSort fun x y => decide (x ≤ y))).length ≤ a.length + b.length from Nat.le_trans (comp_len _) (by rw [List.length_mergeSort, List.length_append]; exact Nat.le_refl _))
  clear hO hlen
  go_wp2_with fail
  refine (sort_I tI.e _ w1 v1 (a ++ b) HO.out HLN.out).mono ?_
  rintro e w2 ⟨rfl, hO2⟩
  have HO2 := Lib.hid hO2
  clear hO2
  go_wp2_with fail
  refine (cut_I tI.e _ w2 v1 _ HO2.out (by rw [List.length_mergeSort]; exact HLN.out)).mono ?_
  rintro e w3 ⟨v3, rfl, hR, hE3⟩
  have HR := Lib.hid hR
  clear hR
  go_wp2_with fail
  go_ret
  exact ⟨_, _, rfl, HR.out, ((Ext.refl w).alloc _ _).trans hE3, HS.out.1, fun c => (HS.out.2 c).trans List.mem_append, HCL.out⟩
end Go.Proofs.YtfojeajmonnifaaGreatDoor
