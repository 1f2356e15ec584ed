/- Concat, of the program, of rows and of values. -/
import Derived.Test.YtfojeajmonnifaaGreatDoorZz13
import Derived.Test.YtfojeajmonnifaaGreatDoorZz23
import Derived.Test.YtfojeajmonnifaaGreatDoorZz33
namespace Go.Proofs.YtfojeajmonnifaaGreatDoor
open Go.ChangeShapes Go.WideShapes Go.ChangeAt Go.RowKit

/-- the first k of two lists, put together -/
def catG9 {α : Type} (a b : List α) : Nat → List α
  | 0 => []
  | 1 => a
  | _ => a ++ b
theorem grow_P (n : Nat) (w : World) (hn : n ≤ 100000000) : Calls Tryz.prog 139 #[.slice none 0 0, .int .i64 n] w fun e w' => ∃ v, e = .returned v ∧ OwnG tP.e w w' v ([] : List P) := by
  obtain ⟨i0, hi, hz0, hz1, hz2⟩ := info_parts tP.hi
  by_cases h0 : n = 0
  · subst h0
    have := Any8.slices_Grow_room Tryz.growP none 0 0 0 w (by omega) (by omega) (by omega) (by omega)
    refine this.mono ?_
    rintro e w' ⟨rfl, rfl⟩
    exact ⟨_, rfl, OwnG.nil _ _ _ (Ext.refl _)⟩
  · have hb : tP.bytes = 48 := rfl
    have hs : Enc.sz P = 2 := rfl
    have := Any8.slices_Grow_grow Tryz.growP i0 (Value.agg #[.slice none 0 0, .slice none 0 0]) hi hz0 (by omega) none 0 0 n [] w (by omega) (by omega) (by rw [hz2, hb]; omega) (by omega) (by simp) (fun _ => rfl) (fun a h => by cases h)
    refine this.mono ?_
    rintro e w' ⟨rfl, rfl⟩
    have hge := grownCap_ge w (0 + n) 0 (Tryz.growP_ren.t 25)
    have hle := grownCap_le_maxLen w (0 + n) 0 (Tryz.growP_ren.t 25) (by unfold maxLen; omega)
    generalize grownCap w (0 + n) 0 (Tryz.growP_ren.t 25) = c at hge hle
    refine ⟨_, rfl, ⟨World.ownsRow_made w.drew _ c (Nat.le_refl _) hle ?_, ((Ext.refl w).drew).alloc _ _⟩⟩
    have hsz : (Value.agg #[.slice none 0 0, .slice none 0 0]).cells.size = 2 := rfl
    simp only [Array.size_append, size_zeroCells, hsz, List.size_toArray, List.length_nil, hs]
    omega
theorem grow_V (n : Nat) (w : World) (hn : n ≤ 100000000) : Calls Tryz.prog 174 #[.slice none 0 0, .int .i64 n] w fun e w' => ∃ v, e = .returned v ∧ OwnG tV.e w w' v ([] : List V) := by
  obtain ⟨i0, hi, hz0, hz1, hz2⟩ := info_parts tV.hi
  by_cases h0 : n = 0
  · subst h0
    have := Any8.slices_Grow_room Tryz.growV none 0 0 0 w (by omega) (by omega) (by omega) (by omega)
    refine this.mono ?_
    rintro e w' ⟨rfl, rfl⟩
    exact ⟨_, rfl, OwnG.nil _ _ _ (Ext.refl _)⟩
  · have hb : tV.bytes = 32 := rfl
    have hs : Enc.sz V = 3 := rfl
    have := Any8.slices_Grow_grow Tryz.growV i0 (Value.agg #[.int .i64 0, .int .i64 0, sv []]) hi hz0 (by omega) none 0 0 n [] w (by omega) (by omega) (by rw [hz2, hb]; omega) (by omega) (by simp) (fun _ => rfl) (fun a h => by cases h)
    refine this.mono ?_
    rintro e w' ⟨rfl, rfl⟩
    have hge := grownCap_ge w (0 + n) 0 (Tryz.growV_ren.t 25)
    have hle := grownCap_le_maxLen w (0 + n) 0 (Tryz.growV_ren.t 25) (by unfold maxLen; omega)
    generalize grownCap w (0 + n) 0 (Tryz.growV_ren.t 25) = c at hge hle
    refine ⟨_, rfl, ⟨World.ownsRow_made w.drew _ c (Nat.le_refl _) hle ?_, ((Ext.refl w).drew).alloc _ _⟩⟩
    have hsz : (Value.agg #[.int .i64 0, .int .i64 0, sv []]).cells.size = 3 := rfl
    simp only [Array.size_append, size_zeroCells, hsz, List.size_toArray, List.length_nil, hs]
    omega
set_option maxHeartbeats 4000000 in
set_option maxRecDepth 100000 in
theorem concat_P (a b : List P) (va vb : Value) (g : Nat) (w : World) (ha : RdG w va a) (hb : RdG w vb b) (g0 : w.cell? ⟨g, 0, none⟩ = some va) (g1 : w.cell? ⟨g, 1, none⟩ = some vb) (hl : a.length + b.length ≤ 100000000) :
    Calls Tryz.prog 102 #[.slice (some ⟨g, 0, none⟩) 2 2] w fun e w' => ∃ v, e = .returned v ∧ OwnG tP.e w w' v (a ++ b) := by
  have GL := Lib.hid (World.block_lt_of_cell? _ _ g0)
  have HA := Lib.hid ha
  have HB := Lib.hid hb
  obtain ⟨ada, capa, rfl, _⟩ := ha.shape
  obtain ⟨adb, capb, rfl, _⟩ := hb.shape
  clear ha hb
  obtain ⟨n, hn⟩ : ∃ n, n = a.length := ⟨_, rfl⟩
  obtain ⟨m, hm⟩ : ∃ m, m = b.length := ⟨_, rfl⟩
  have HN := Lib.hid hn
  have HM := Lib.hid hm
  rw [← hn, ← hm] at hl
  rw [← hn] at g0 HA
  rw [← hm] at g1 HB
  clear hn hm
  go_enter Tryz.func102, Tryz.ntmps102
  go_wp2_with fail
  go_loopw [3, 11] (fun u i wr => w = wr ∧ ((i = .int .i64 0 ∧ u = .int .i64 0) ∨ (i = .int .i64 1 ∧ u = .int .i64 (n : Int)) ∨ (i = .int .i64 2 ∧ u = .int .i64 ((n : Int) + (m : Int))))) (fun _ i _ => 2 - (intOf i).toNat)
  case atStart => exact ⟨by trivial, Or.inl ⟨rfl, rfl⟩⟩
  case round =>
    obtain ⟨rfl, h⟩ := hrel
    rcases h with ⟨rfl, rfl⟩ | ⟨rfl, rfl⟩ | ⟨rfl, rfl⟩
    · go_wp2_with fail
      go_roundw
      case rel => exact ⟨by trivial, Or.inr (Or.inl ⟨rfl, by simp⟩)⟩
      case measure => simp [intOf]
    · go_wp2_with fail
      go_roundw
      case rel => exact ⟨by trivial, Or.inr (Or.inr ⟨rfl, rfl⟩)⟩
      case measure => simp [intOf]
    · rw [show (n : Int) + (m : Int) = ((n + m : Nat) : Int) by omega]
      go_wp2_with fail
      refine (grow_P (n + m) _ (by omega)).mono ?_
      rintro e w1 ⟨v1, rfl, hO⟩
      have G0 := hO.2.keeps g0
      have G1 := hO.2.keeps g1
      clear g0 g1
      go_wp2_with fail
      go_loopw [6, 27] (fun u i wr => ∃ k : Nat, k ≤ 2 ∧ i = .int .i64 k ∧ OwnG tP.e w wr u (catG9 a b k) ∧ wr.cell? ⟨g, 0, none⟩ = some (.slice ada n capa) ∧ wr.cell? ⟨g, 1, none⟩ = some (.slice adb m capb)) (fun _ i _ => 2 - (intOf i).toNat)
      case atStart => exact ⟨0, by omega, rfl, hO, G0, G1⟩
      case round =>
        obtain ⟨k, hk, rfl, hO2, q0, q1⟩ := hrel
        have gl : g < w.heap.size := GL.out
        rcases (show k = 0 ∨ k = 1 ∨ k = 2 by omega) with rfl | rfl | rfl
        · go_wp2_with (at_builtin; refine appG tP rfl _ _ rfl w _ [] rfl hO2 _ a rfl (HA.out.ext hO2.2) (by have := HN.out; simp; omega) ?_; intro v' w' hO' hg'; have r0 := hO2.far hg' gl q0; have r1 := hO2.far hg' gl q1)
          go_roundw
          case rel => exact ⟨1, by omega, rfl, hO', r0, r1⟩
          case measure => simp [intOf]
        · go_wp2_with (at_builtin; refine appG tP rfl _ _ rfl w _ a rfl hO2 _ b rfl (HB.out.ext hO2.2) (by have := HN.out; have := HM.out; omega) ?_; intro v' w' hO' hg'; have r0 := hO2.far hg' gl q0; have r1 := hO2.far hg' gl q1)
          go_roundw
          case rel => exact ⟨2, by omega, rfl, hO', r0, r1⟩
          case measure => simp [intOf]
        · go_wp2_with fail
          go_ret
          exact ⟨_, rfl, hO2⟩
set_option maxHeartbeats 4000000 in
set_option maxRecDepth 100000 in
theorem concat_V (a b : List V) (va vb : Value) (g : Nat) (w : World) (ha : RdG w va a) (hb : RdG w vb b) (g0 : w.cell? ⟨g, 0, none⟩ = some va) (g1 : w.cell? ⟨g, 1, none⟩ = some vb) (hl : a.length + b.length ≤ 100000000) :
    Calls Tryz.prog 138 #[.slice (some ⟨g, 0, none⟩) 2 2] w fun e w' => ∃ v, e = .returned v ∧ OwnG tV.e w w' v (a ++ b) := by
  have GL := Lib.hid (World.block_lt_of_cell? _ _ g0)
  have HA := Lib.hid ha
  have HB := Lib.hid hb
  obtain ⟨ada, capa, rfl, _⟩ := ha.shape
  obtain ⟨adb, capb, rfl, _⟩ := hb.shape
  clear ha hb
  obtain ⟨n, hn⟩ : ∃ n, n = a.length := ⟨_, rfl⟩
  obtain ⟨m, hm⟩ : ∃ m, m = b.length := ⟨_, rfl⟩
  have HN := Lib.hid hn
  have HM := Lib.hid hm
  rw [← hn, ← hm] at hl
  rw [← hn] at g0 HA
  rw [← hm] at g1 HB
  clear hn hm
  go_enter Tryz.func138, Tryz.ntmps138
  go_wp2_with fail
  go_loopw [3, 11] (fun u i wr => w = wr ∧ ((i = .int .i64 0 ∧ u = .int .i64 0) ∨ (i = .int .i64 1 ∧ u = .int .i64 (n : Int)) ∨ (i = .int .i64 2 ∧ u = .int .i64 ((n : Int) + (m : Int))))) (fun _ i _ => 2 - (intOf i).toNat)
  case atStart => exact ⟨by trivial, Or.inl ⟨rfl, rfl⟩⟩
  case round =>
    obtain ⟨rfl, h⟩ := hrel
    rcases h with ⟨rfl, rfl⟩ | ⟨rfl, rfl⟩ | ⟨rfl, rfl⟩
    · go_wp2_with fail
      go_roundw
      case rel => exact ⟨by trivial, Or.inr (Or.inl ⟨rfl, by simp⟩)⟩
      case measure => simp [intOf]
    · go_wp2_with fail
      go_roundw
      case rel => exact ⟨by trivial, Or.inr (Or.inr ⟨rfl, rfl⟩)⟩
      case measure => simp [intOf]
    · rw [show (n : Int) + (m : Int) = ((n + m : Nat) : Int) by omega]
      go_wp2_with fail
      refine (grow_V (n + m) _ (by omega)).mono ?_
      rintro e w1 ⟨v1, rfl, hO⟩
      have G0 := hO.2.keeps g0
      have G1 := hO.2.keeps g1
      clear g0 g1
      go_wp2_with fail
      go_loopw [6, 27] (fun u i wr => ∃ k : Nat, k ≤ 2 ∧ i = .int .i64 k ∧ OwnG tV.e w wr u (catG9 a b k) ∧ wr.cell? ⟨g, 0, none⟩ = some (.slice ada n capa) ∧ wr.cell? ⟨g, 1, none⟩ = some (.slice adb m capb)) (fun _ i _ => 2 - (intOf i).toNat)
      case atStart => exact ⟨0, by omega, rfl, hO, G0, G1⟩
      case round =>
        obtain ⟨k, hk, rfl, hO2, q0, q1⟩ := hrel
        have gl : g < w.heap.size := GL.out
        rcases (show k = 0 ∨ k = 1 ∨ k = 2 by omega) with rfl | rfl | rfl
        · go_wp2_with (at_builtin; refine appG tV rfl _ _ rfl w _ [] rfl hO2 _ a rfl (HA.out.ext hO2.2) (by have := HN.out; simp; omega) ?_; intro v' w' hO' hg'; have r0 := hO2.far hg' gl q0; have r1 := hO2.far hg' gl q1)
          go_roundw
          case rel => exact ⟨1, by omega, rfl, hO', r0, r1⟩
          case measure => simp [intOf]
        · go_wp2_with (at_builtin; refine appG tV rfl _ _ rfl w _ a rfl hO2 _ b rfl (HB.out.ext hO2.2) (by have := HN.out; have := HM.out; omega) ?_; intro v' w' hO' hg'; have r0 := hO2.far hg' gl q0; have r1 := hO2.far hg' gl q1)
          go_roundw
          case rel => exact ⟨2, by omega, rfl, hO', r0, r1⟩
          case measure => simp [intOf]
        · go_wp2_with fail
          go_ret
          exact ⟨_, rfl, hO2⟩
end Go.Proofs.YtfojeajmonnifaaGreatDoor
/- Evaluating a query, of the program: Except and Intersect. -/
namespace Go.Proofs.YtfojeajmonnifaaGreatDoor
open Go.ChangeShapes Go.WideShapes Go.ChangeAt Go.RowKit

/-- a new box of two cells, and all else as it was -/
def BxE (wr W : World) (B : Nat) (x y : Value) : Prop := Ext wr W ∧ W.cell? ⟨B, 0, none⟩ = some x ∧ W.cell? ⟨B, 1, none⟩ = some y
theorem bxE_alloc {wr w3 : World} {x y : Value} {t : TypeId} (h : Ext wr w3) : BxE wr (w3.alloc (.cells #[x, y] t)) w3.heap.size x y := ⟨h.alloc _ _, al0 _ _ _ _, al1 _ _ _ _⟩
theorem ext_set2 {w X : World} (h : Ext w X) (b o o' : Nat) (hb : w.heap.size ≤ b) (u v : Value) : Ext w ((X.setCell ⟨b, o, none⟩ u).setCell ⟨b, o', none⟩ v) := (h.setNew b o hb u).setNew b o' hb v
theorem bxE_set {wr w3 : World} {p q x y : Value} {t : TypeId} (h : Ext (wr.alloc (.cells #[p, q] t)) w3) : BxE wr ((w3.setCell ⟨wr.heap.size, 0, none⟩ x).setCell ⟨wr.heap.size, 1, none⟩ y) wr.heap.size x y := by
  have n0 := h.keeps (al0 wr p q t)
  have n1 := h.keeps (al1 wr p q t)
  refine ⟨ext_set2 (((Ext.refl wr).alloc _ _).trans h) _ _ _ (Nat.le_refl _) _ _, ?_, ?_⟩
  · rw [World.cell?_setCell_other _ _ _ _ (by simp)]
    exact World.cell?_setCell_same _ _ _ n0
  · refine World.cell?_setCell_same _ _ _ (u := q) ?_
    rw [World.cell?_setCell_other _ _ _ _ (by simp)]; exact n1
theorem own_set2 {α : Type} [Enc α] {e : TypeId} {wr w3 : World} {p q x y : Value} {t : TypeId} {v : Value} {l : List α} (h : OwnG e (wr.alloc (.cells #[p, q] t)) w3 v l) : OwnG e wr ((w3.setCell ⟨wr.heap.size, 0, none⟩ x).setCell ⟨wr.heap.size, 1, none⟩ y) v l := by
  have hne : v.ownBlock = none ∨ v.ownBlock ≠ some wr.heap.size := .inr fun e => by
    have := (h.blk _ e).1
    simp at this
    omega
  have h0 := h.base ((Ext.refl wr).alloc _ _)
  have k1 := set_grw w3 wr.heap.size 0 x
  have k2 := set_grw (w3.setCell ⟨wr.heap.size, 0, none⟩ x) wr.heap.size 1 y
  have hb : ∀ g, some wr.heap.size = some g → wr.heap.size ≤ g := fun g hg => by injection hg with hg; omega
  exact (h0.other k1 hb hne).other k2 hb hne
theorem far2 {w : World} {b b' o i j : Nat} {u x y : Value} (hne : b < b') (h : w.cell? ⟨b, o, none⟩ = some u) : ((w.setCell ⟨b', i, none⟩ x).setCell ⟨b', j, none⟩ y).cell? ⟨b, o, none⟩ = some u := by
  have ne : ∀ k, (⟨b, o, none⟩ : Addr) ≠ ⟨b', k, none⟩ := fun k e => by injection e with e; omega
  rw [World.cell?_setCell_other _ _ _ _ (by intro e; injection e with e; omega), World.cell?_setCell_other _ _ _ _ (by intro e; injection e with e; omega)]; exact h
theorem cnt_count (l : List R) (v : List V) : (l.map R.v).count v = cnt l v := by
  unfold cnt List.count
  rw [List.countP_map]
  refine List.countP_congr fun r _ => ?_
  simp
theorem fm_pre {α β : Type} (G : α → List β) (l : List α) (k : Nat) : ((l.take k).flatMap G).length ≤ (l.flatMap G).length := by
  have : l.flatMap G = (l.take k).flatMap G ++ (l.drop k).flatMap G := by rw [← List.flatMap_append, List.take_append_drop]
  rw [this, List.length_append]; omega
theorem fm_step {α β : Type} (G : α → List β) (l : List α) (k : Nat) (h : k < l.length) : (l.take (k + 1)).flatMap G = (l.take k).flatMap G ++ G l[k] := by
  rw [List.take_succ_eq_append_getElem h, List.flatMap_append]; simp
theorem cls_cnt (a b : List R) (c : Cl) (hc : c ∈ clsF R.v (a ++ b)) : cnt a c.1 ≤ c.2.length ∧ c.2.length ≤ a.length + b.length := by
  have h := ((clsF_isC R.v (a ++ b)).cls c hc).length_eq
  rw [h, List.filter_append, List.length_append, ← List.countP_eq_length_filter, ← List.countP_eq_length_filter]
  have h1 := List.countP_le_length (p := fun r => decide (R.v r = c.1)) (l := a)
  have h2 := List.countP_le_length (p := fun r => decide (R.v r = c.1)) (l := b)
  unfold cnt
  omega
def CtR (W : World) (M : Nat) (l : List R) (i : Value) (wr : World) : Prop := ∃ k : Nat, k ≤ l.length ∧ i = .int .i64 k ∧ Ext W wr ∧ MapI M (cntF ((l.take k).map R.v)) k wr
def CbR (S : Nat → Prop) (W1 : World) (G : Cl → List R) (cs : List Cl) (v i : Value) (wr : World) : Prop := ∃ k : Nat, k ≤ cs.length ∧ i = .int .i64 k ∧ OwnQ S W1 wr v ((cs.take k).flatMap G)
end Go.Proofs.YtfojeajmonnifaaGreatDoor
