/- The program's MergeLineage. -/
import Derived.Test.YtbplapkcleipiaaGreatDoorZz15
import Derived.Test.YtbplapkcleipiaaGreatDoorZz16
namespace Go.Proofs.YtbplapkcleipiaaGreatDoor
open Go.ChangeShapes Go.WideShapes Go.ChangeAt Go.RowKit

theorem grow_I (n : Nat) (w : World) (hn : n ≤ 100000000) : Calls Tryz.prog 58 #[.slice none 0 0, .int .i64 n] w fun e w' => ∃ v, e = .returned v ∧ OwnG tI.e w w' v ([] : List Int) := by
  obtain ⟨i0, hi, hz0, hz1, hz2⟩ := info_parts tI.hi
  by_cases h0 : n = 0
  · subst h0
    have := Any8.slices_Grow_room Tryz.growI none 0 0 0 w (by omega) (by omega) (by omega) (by omega)
    refine this.mono ?_
    rintro e w' ⟨rfl, rfl⟩
    exact ⟨_, rfl, OwnG.nil _ _ _ (Ext.refl _)⟩
  · have hb : tI.bytes = 8 := rfl
    have hs : Enc.sz Int = 1 := rfl
    have := Any8.slices_Grow_grow Tryz.growI i0 (.int .i64 0) hi hz0 (by omega) none 0 0 n [] w (by omega) (by omega) (by rw [hz2, hb]; omega) (by omega) (by simp) (fun _ => rfl) (fun a h => by cases h)
    refine this.mono ?_
    rintro e w' ⟨rfl, rfl⟩
    have hge := grownCap_ge w (0 + n) 0 (Tryz.growI_ren.t 25)
    have hle := grownCap_le_maxLen w (0 + n) 0 (Tryz.growI_ren.t 25) (by unfold maxLen; omega)
    generalize grownCap w (0 + n) 0 (Tryz.growI_ren.t 25) = c at hge hle
    refine ⟨_, rfl, ⟨World.ownsRow_made w.drew _ c (Nat.le_refl _) hle ?_, ((Ext.refl w).drew).alloc _ _⟩⟩
    have hsz : (Value.int .i64 0).cells.size = 1 := rfl
    simp only [Array.size_append, size_zeroCells, hsz, List.size_toArray, List.length_nil, hs]
    omega
/-- the first k of two rows, put together -/
def catI (a b : List Int) : Nat → List Int
  | 0 => []
  | 1 => a
  | _ => a ++ b
set_option maxHeartbeats 4000000 in
theorem concat_I (a b : List Int) (va vb : Value) (g : Nat) (w : World) (ha : RdG w va a) (hb : RdG w vb b) (g0 : w.cell? ⟨g, 0, none⟩ = some va) (g1 : w.cell? ⟨g, 1, none⟩ = some vb) (hl : a.length + b.length ≤ 100000000) :
    Calls Tryz.prog 41 #[.slice (some ⟨g, 0, none⟩) 2 2] w fun e w' => ∃ v, e = .returned v ∧ OwnG tI.e w w' v (a ++ b) := by
  have GL := Lib.hid (World.block_lt_of_cell? _ _ g0)
  have HA := Lib.hid ha
  have HB := Lib.hid hb
  obtain ⟨ada, capa, rfl, _⟩ := ha.shape
  obtain ⟨adb, capb, rfl, _⟩ := hb.shape
  clear ha hb
  obtain ⟨n, hn⟩ : ∃ n, n = a.length := ⟨_, rfl⟩
  obtain ⟨m, hm⟩ : ∃ m, m = b.length := ⟨_, rfl⟩
  have HN := Lib.hid hn
  have HM := Lib.hid hm
  rw [← hn, ← hm] at hl
  rw [← hn] at g0 HA
  rw [← hm] at g1 HB
  clear hn hm
  go_enter Tryz.func41, Tryz.ntmps41
  go_wp2_with fail
  go_loopw [3, 11] (fun u i wr => w = wr ∧ ((i = .int .i64 0 ∧ u = .int .i64 0) ∨ (i = .int .i64 1 ∧ u = .int .i64 (n : Int)) ∨ (i = .int .i64 2 ∧ u = .int .i64 ((n : Int) + (m : Int))))) (fun _ i _ => 2 - (intOf i).toNat)
  case atStart => exact ⟨by trivial, Or.inl ⟨rfl, rfl⟩⟩
  case round =>
    obtain ⟨rfl, h⟩ := hrel
    rcases h with ⟨rfl, rfl⟩ | ⟨rfl, rfl⟩ | ⟨rfl, rfl⟩
    · go_wp2_with fail
      go_roundw
      case rel => exact ⟨by trivial, Or.inr (Or.inl ⟨rfl, by simp⟩)⟩
      case measure => simp [intOf]
    · go_wp2_with fail
      go_roundw
      case rel => exact ⟨by trivial, Or.inr (Or.inr ⟨rfl, rfl⟩)⟩
      case measure => simp [intOf]
    · rw [show (n : Int) + (m : Int) = ((n + m : Nat) : Int) by omega]
      go_wp2_with fail
      refine (grow_I (n + m) _ (by omega)).mono ?_
      rintro e w1 ⟨v1, rfl, hO⟩
      have G0 := hO.2.keeps g0
      have G1 := hO.2.keeps g1
      clear g0 g1
      go_wp2_with fail
      go_loopw [6, 27] (fun u i wr => ∃ k : Nat, k ≤ 2 ∧ i = .int .i64 k ∧ OwnG tI.e w wr u (catI a b k) ∧ wr.cell? ⟨g, 0, none⟩ = some (.slice ada n capa) ∧ wr.cell? ⟨g, 1, none⟩ = some (.slice adb m capb)) (fun _ i _ => 2 - (intOf i).toNat)
      case atStart => exact ⟨0, by omega, rfl, hO, G0, G1⟩
      case round =>
        obtain ⟨k, hk, rfl, hO2, q0, q1⟩ := hrel
        have gl : g < w.heap.size := GL.out
        rcases (show k = 0 ∨ k = 1 ∨ k = 2 by omega) with rfl | rfl | rfl
        · go_wp2_with (at_builtin; refine appG tI rfl _ _ rfl w _ [] rfl hO2 _ a rfl (HA.out.ext hO2.2) (by have := HN.out; simp; omega) ?_; intro v' w' hO' hg'; have r0 := hO2.far hg' gl q0; have r1 := hO2.far hg' gl q1)
          go_roundw
          case rel => exact ⟨1, by omega, rfl, hO', r0, r1⟩
          case measure => simp [intOf]
        · go_wp2_with (at_builtin; refine appG tI rfl _ _ rfl w _ a rfl hO2 _ b rfl (HB.out.ext hO2.2) (by have := HN.out; have := HM.out; omega) ?_; intro v' w' hO' hg'; have r0 := hO2.far hg' gl q0; have r1 := hO2.far hg' gl q1)
          go_roundw
          case rel => exact ⟨2, by omega, rfl, hO', r0, r1⟩
          case measure => simp [intOf]
        · go_wp2_with fail
          go_ret
          exact ⟨_, rfl, hO2⟩
/-- what MergeLineage returns -/
def MqP (a b : List Int) (w : World) (e : Ending) (w' : World) : Prop := ∃ v cs, e = .returned v ∧ RdG w' v cs ∧ Ext w w' ∧ Asc cs ∧ (∀ c, c ∈ cs ↔ c ∈ a ∨ c ∈ b) ∧ cs.length ≤ a.length + b.length
theorem comp_len (l : List Int) : (Lib.compact l).length ≤ l.length := by
  unfold Lib.compact Lib.compactUpTo
  rw [List.length_map]
  exact Nat.le_trans (List.length_filter_le _ _) (by simp)
set_option maxHeartbeats 2000000 in
theorem ml_prg (a b : List Int) (va vb : Value) (w : World) (ha : RdG w va a) (hb : RdG w vb b) (hl : a.length + b.length ≤ 100000000) : Calls Tryz.prog 24 #[va, vb] w (MqP a b w) := by
  have HA := Lib.hid ha
  have HB := Lib.hid hb
  have HL := Lib.hid hl
  obtain ⟨ada, capa, rfl, _⟩ := ha.shape
  obtain ⟨adb, capb, rfl, _⟩ := hb.shape
  clear ha hb hl
  go_enter Tryz.func24, Tryz.ntmps24
  go_wp2_with fail
  refine (concat_I a b _ _ _ _ (HA.out.ext ((Ext.refl _).alloc _ _)) (HB.out.ext ((Ext.refl _).alloc _ _)) (al0 _ _ _ _) (al1 _ _ _ _) HL.out).mono ?_
  rintro e w1 ⟨v1, rfl, hO⟩
  have hlen : (a ++ b).length ≤ 100000000 := by rw [List.length_append]; exact HL.out
  have HS := Lib.hid (sort_cut (a ++ b))
  have HO := Lib.hid hO
  have HLN := Lib.hid hlen
  have HCL := Lib.hid (show (Lib.compact ((a ++ b).mergeSort fun x y => decide (x ≤ y))).length ≤ a.length + b.length from Nat.le_trans (comp_len _) (by rw [List.length_mergeSort, List.length_append]; exact Nat.le_refl _))
  clear hO hlen
  go_wp2_with fail
  refine (sort_I tI.e _ w1 v1 (a ++ b) HO.out HLN.out).mono ?_
  rintro e w2 ⟨rfl, hO2⟩
  have HO2 := Lib.hid hO2
  clear hO2
  go_wp2_with fail
  refine (cut_I tI.e _ w2 v1 _ HO2.out (by rw [List.length_mergeSort]; exact HLN.out)).mono ?_
  rintro e w3 ⟨v3, rfl, hR, hE3⟩
  have HR := Lib.hid hR
  clear hR
  go_wp2_with fail
  go_ret
  exact ⟨_, _, rfl, HR.out, ((Ext.refl w).alloc _ _).trans hE3, HS.out.1, fun c => (HS.out.2 c).trans List.mem_append, HCL.out⟩
end Go.Proofs.YtbplapkcleipiaaGreatDoor
