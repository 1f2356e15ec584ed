/- Contracts of slices.Grow from nil, slices.Concat of two slices, and of the program's Union. -/
import Derived.Test.YtckknhocmbhmhaaSrt2
import Derived.Test.YtckknhocmbhmhaaShH
namespace Go.Proofs.Ytckknhocmbhmhaa
open Go.ChangeShapes Go.WideShapes Go.ChangeAt Go.RowKit

theorem grow_per (n : Nat) (w : World) (hn : n ≤ 8796093022208) : Calls Try.prog 39 #[.slice none 0 0, .int .i64 n] w fun e w' => ∃ v, e = .returned v ∧ Own w w' v [] := by
  obtain ⟨i0, hi, hz0, hz1, hz2⟩ := info_parts infoP
  by_cases h0 : n = 0
  · subst h0
    have := Any8.slices_Grow_room Try.growP none 0 0 0 w (by omega) (by omega) (by omega) (by omega)
    refine this.mono ?_
    rintro e w' ⟨rfl, rfl⟩
    exact ⟨_, rfl, Own.nil _ _ (Ext.refl _)⟩
  · have := Any8.slices_Grow_grow Try.growP i0 (.agg #[.int .i64 0, .int .i64 0]) hi hz0 (by omega) none 0 0 n [] w (by omega) (by omega) (by rw [hz2]; omega) (by omega) (by simp) (fun _ => rfl) (fun a h => by cases h)
    refine this.mono ?_
    rintro e w' ⟨rfl, rfl⟩
    have hge := grownCap_ge w (0 + n) 0 (Try.growP_ren.t 25)
    have hle := grownCap_le_maxLen w (0 + n) 0 (Try.growP_ren.t 25) (by unfold maxLen; omega)
    generalize grownCap w (0 + n) 0 (Try.growP_ren.t 25) = c at hge hle
    refine ⟨_, rfl, ⟨World.ownsRow_made w.drew _ c (Nat.le_refl _) hle ?_, ((Ext.refl w).drew).alloc _ _⟩⟩
    have hsz : (Value.agg #[.int .i64 0, .int .i64 0]).cells.size = 2 := rfl
    simp only [Array.size_append, size_zeroCells, hsz, List.size_toArray, List.length_nil]
    omega
/-- the first k of two rows, put together -/
def catL (a b : List (Int × Int)) : Nat → List (Int × Int)
  | 0 => []
  | 1 => a
  | _ => a ++ b
set_option maxHeartbeats 4000000 in
theorem concat_per (a b : List (Int × Int)) (va vb : Value) (g : Nat) (w : World) (ha : Rd w va a) (hb : Rd w vb b) (g0 : w.cell? ⟨g, 0, none⟩ = some va) (g1 : w.cell? ⟨g, 1, none⟩ = some vb) (hl : a.length + b.length ≤ 4398046511104) :
    Calls Try.prog 31 #[.slice (some ⟨g, 0, none⟩) 2 2] w fun e w' => ∃ v, e = .returned v ∧ Own w w' v (a ++ b) := by
  have GL := Lib.hid (World.block_lt_of_cell? _ _ g0)
  have HA := Lib.hid ha
  have HB := Lib.hid hb
  obtain ⟨ada, capa, rfl, _⟩ := ha
  obtain ⟨adb, capb, rfl, _⟩ := hb
  obtain ⟨n, hn⟩ : ∃ n, n = a.length := ⟨_, rfl⟩
  obtain ⟨m, hm⟩ : ∃ m, m = b.length := ⟨_, rfl⟩
  have HN := Lib.hid hn
  have HM := Lib.hid hm
  rw [← hn, ← hm] at hl
  rw [← hn] at g0 HA
  rw [← hm] at g1 HB
  clear hn hm
  go_enter Try.func31, Try.ntmps31
  go_wp2_with fail
  go_loopw [3, 11] (fun u i wr => w = wr ∧ ((i = .int .i64 0 ∧ u = .int .i64 0) ∨ (i = .int .i64 1 ∧ u = .int .i64 (n : Int)) ∨ (i = .int .i64 2 ∧ u = .int .i64 ((n : Int) + (m : Int))))) (fun _ i _ => 2 - (intOf i).toNat)
  case atStart => exact ⟨by trivial, Or.inl ⟨rfl, rfl⟩⟩
  case round =>
    obtain ⟨rfl, h⟩ := hrel
    rcases h with ⟨rfl, rfl⟩ | ⟨rfl, rfl⟩ | ⟨rfl, rfl⟩
    · go_wp2_with fail
      go_roundw
      case rel => exact ⟨by trivial, Or.inr (Or.inl ⟨rfl, by simp⟩)⟩
      case measure => simp [intOf]
    · go_wp2_with fail
      go_roundw
      case rel => exact ⟨by trivial, Or.inr (Or.inr ⟨rfl, rfl⟩)⟩
      case measure => simp [intOf]
    · rw [show (n : Int) + (m : Int) = ((n + m : Nat) : Int) by omega]
      go_wp2_with fail
      refine (grow_per (n + m) _ (by omega)).mono ?_
      rintro e w1 ⟨v1, rfl, hO⟩
      have G0 := hO.2.keeps g0
      have G1 := hO.2.keeps g1
      clear g0 g1
      go_wp2_with fail
      go_loopw [6, 27] (fun u i wr => ∃ k : Nat, k ≤ 2 ∧ i = .int .i64 k ∧ Own w wr u (catL a b k) ∧ wr.cell? ⟨g, 0, none⟩ = some (.slice ada n capa) ∧ wr.cell? ⟨g, 1, none⟩ = some (.slice adb m capb)) (fun _ i _ => 2 - (intOf i).toNat)
      case atStart => exact ⟨0, by omega, rfl, hO, G0, G1⟩
      case round =>
        obtain ⟨k, hk, rfl, hO2, q0, q1⟩ := hrel
        have gl : g < w.heap.size := GL.out
        rcases (show k = 0 ∨ k = 1 ∨ k = 2 by omega) with rfl | rfl | rfl
        · go_wp2_with (at_builtin; refine appR rfl _ _ rfl w _ [] rfl hO2 _ a rfl (HA.out.ext hO2.2) (by have := HN.out; simp; omega) ?_; intro v' w' hO' hg'; have r0 := hO2.far hg' gl q0; have r1 := hO2.far hg' gl q1)
          go_roundw
          case rel => exact ⟨1, by omega, rfl, hO', r0, r1⟩
          case measure => simp [intOf]
        · go_wp2_with (at_builtin; refine appR rfl _ _ rfl w _ a rfl hO2 _ b rfl (HB.out.ext hO2.2) (by have := HN.out; have := HM.out; omega) ?_; intro v' w' hO' hg'; have r0 := hO2.far hg' gl q0; have r1 := hO2.far hg' gl q1)
          go_roundw
          case rel => exact ⟨2, by omega, rfl, hO', r0, r1⟩
          case measure => simp [intOf]
        · go_wp2_with fail
          go_ret
          exact ⟨_, rfl, hO2⟩
set_option maxHeartbeats 2000000 in
theorem union_per (a b : List (Int × Int)) (va vb : Value) (w : World) (ha : Rd w va a) (hb : Rd w vb b) (hl : a.length + b.length ≤ 4398046511104) : Calls Try.prog 18 #[va, vb] w (SetPost (fun t => memB a t || memB b t) w) := by
  have HA := Lib.hid ha
  have HB := Lib.hid hb
  obtain ⟨ada, capa, rfl, _⟩ := ha
  obtain ⟨adb, capb, rfl, _⟩ := hb
  go_enter Try.func18, Try.ntmps18
  go_wp2_with fail
  refine (concat_per a b _ _ _ _ (HA.out.ext ((Ext.refl _).alloc _ _)) (HB.out.ext ((Ext.refl _).alloc _ _)) (al0 _ _ _ _) (al1 _ _ _ _) hl).mono ?_
  rintro e w1 ⟨v1, rfl, hO⟩
  go_wp2_with fail
  refine (norm_per (a ++ b) v1 w1 hO.rd (by rw [List.length_append]; exact hl)).mono ?_
  rintro e w2 ⟨v2, l, rfl, hN, hM, ho, hE⟩
  go_wp2_with fail
  go_ret
  exact ⟨_, l, rfl, hN, fun t => by rw [hM, memB_append], ho, (((Ext.refl _).alloc _ _).trans hO.2).trans hE⟩
end Go.Proofs.Ytckknhocmbhmhaa
