/- Contracts of granule's weeks: weeksBefore and firstDayOfWeek; the table of long years. -/
import Derived.Test.YtjphkgnngkbgcaaDoorGw1
import Derived.Lib.LaidTab
namespace Go.Proofs.YtjphkgnngkbgcaaDoor
open Go.ChangeShapes Go.WideShapes Go.ChangeAt Go.RowKit

theorem gLong : Tryd.prog.globalNamed "annalist/granule.longYears" = some 0 := by kernel_rfl
/-- the table holds the long years -/
def Tab (w : World) : Prop := 0 < w.heap.size ∧ ∀ i : Nat, i < 15 → w.cell? ⟨0, i, none⟩ = some (.int .i64 (Cal.longs.getD i 0))
theorem Tab.at {w : World} (h : Tab w) (i : Nat) (hi : i < 15) : w.cell? ⟨0, i, none⟩ = some (.int .i64 (Cal.longs.getD i 0)) := h.2 i hi
theorem tab_of {w : World} (h : Lib.TabIs Tryd.prog w "annalist/granule.longYears" .i64 Cal.longs) : Tab w := by
  refine ⟨?_, fun i hi => h.cell gLong i hi⟩
  have h0 := h.cell gLong 0 (by decide)
  by_cases c : 0 < w.heap.size
  · exact c
  · rw [World.cell?, Array.getElem?_eq_none (by simpa using c)] at h0; cases h0
theorem Tab.grown {w w' : World} (h : Tab w) (g : Grown w w') : Tab w' :=
  ⟨Nat.lt_of_lt_of_le h.1 g.2.2, fun i hi => by rw [(gcell g).1 _ _ h.1]; exact h.2 i hi⟩
theorem Tab.alloc {w : World} (h : Tab w) (c : Array Value) (t : TypeId) : Tab (w.alloc (.cells c t)) := h.grown ((Grown.refl _).alloc _ _)

def lcT (k : Nat) (r : Int) : Int := ((Cal.longs.take k).countP (fun x => decide (x < r)) : Nat)
theorem lcT_bd (k : Nat) (r : Int) : 0 ≤ lcT k r ∧ lcT k r ≤ 15 := by
  unfold lcT
  have h1 := List.countP_le_length (p := fun x => decide (x < r)) (l := Cal.longs.take k)
  have h2 : (Cal.longs.take k).length ≤ 15 := by simp [Cal.longs]; omega
  omega
theorem lcT_succ (k : Nat) (r : Int) (hk : k < 15) (z : Int) (hz : Cal.longs.getD k 0 = z) : lcT (k + 1) r = lcT k r + if z < r then 1 else 0 := by
  unfold lcT
  have hl : k < Cal.longs.length := hk
  rw [List.take_succ_eq_append_getElem hl, List.countP_append]
  have : Cal.longs[k] = z := by rw [← hz]; simp [List.getD, hl]
  rw [this]
  by_cases c : z < r <;> simp [c]
theorem lcT_all (r : Int) : lcT 15 r = Cal.lc r := by unfold lcT Cal.lc; rw [List.take_of_length_le (by decide)]

set_option maxHeartbeats 8000000 in
theorem wb_gra (y : Int) (w : World) (hT : Tab w) (h1 : 1600 ≤ y) (h2 : y ≤ 1000000) :
    Calls Tryd.prog 25 #[.int .i64 y] w fun e w' => e = .returned (.int .i64 (Cal.wb y)) ∧ w = w' := by
  have c0 := hT.at 0 (by decide)
  have c1 := hT.at 1 (by decide)
  have c2 := hT.at 2 (by decide)
  have c3 := hT.at 3 (by decide)
  have c4 := hT.at 4 (by decide)
  have c5 := hT.at 5 (by decide)
  have c6 := hT.at 6 (by decide)
  have c7 := hT.at 7 (by decide)
  have c8 := hT.at 8 (by decide)
  have c9 := hT.at 9 (by decide)
  have c10 := hT.at 10 (by decide)
  have c11 := hT.at 11 (by decide)
  have c12 := hT.at 12 (by decide)
  have c13 := hT.at 13 (by decide)
  have c14 := hT.at 14 (by decide)
  simp only [Cal.longs, List.getD_cons_zero, List.getD_cons_succ] at c0 c1 c2 c3 c4 c5 c6 c7 c8 c9 c10 c11 c12 c13 c14
  have hp : 0 ≤ y - 1600 := by omega
  go_enter Tryd.func25, Tryd.ntmps25
  go_wp2
  go_loop [4, 16] (fun n i => ∃ k : Nat, k ≤ 15 ∧ i = .int .i64 k ∧ n = .int .i64 ((y - 1600) * 53 + (y - 1600) / 400 * 15 + lcT k ((y - 1600) % 400))) (fun _ i => (15 - intOf i).toNat)
  case atStart => exact ⟨0, by omega, rfl, by simp [lcT]⟩
  case round =>
    obtain ⟨k, hk, rfl, rfl⟩ := hrel
    have hb := lcT_bd k ((y - 1600) % 400)
    by_cases hlt : k < 15
    · have e : k = 0 ∨ k = 1 ∨ k = 2 ∨ k = 3 ∨ k = 4 ∨ k = 5 ∨ k = 6 ∨ k = 7 ∨ k = 8 ∨ k = 9 ∨ k = 10 ∨ k = 11 ∨ k = 12 ∨ k = 13 ∨ k = 14 := by omega
      clear hk hlt
      rcases e with rfl | rfl | rfl | rfl | rfl | rfl | rfl | rfl | rfl | rfl | rfl | rfl | rfl | rfl | rfl
      · have hix : ∀ w, (Instr.index 55 (.agg #[.int .i64 12, .int .i64 40, .int .i64 68, .int .i64 96, .int .i64 108, .int .i64 136, .int .i64 164, .int .i64 192, .int .i64 204, .int .i64 232, .int .i64 260, .int .i64 288, .int .i64 328, .int .i64 356, .int .i64 384]) (.int .i64 0)).run Tryd.prog w = .ok (.int .i64 12) w := fun _ => by kernel_rfl
        have HS := Lib.hid (lcT_succ 0 ((y - 1600) % 400) (by decide) 12 rfl)
        by_cases hc : 12 < (y - 1600) % 400
        all_goals
          go_wp2
          go_round
          case rel => exact ⟨0 + 1, by omega, rfl, by rw [HS.out]; first | (rw [if_pos hc]; go_num) | (rw [if_neg (by omega)]; go_num)⟩
          case measure => simp [intOf]; try omega
      · have hix : ∀ w, (Instr.index 55 (.agg #[.int .i64 12, .int .i64 40, .int .i64 68, .int .i64 96, .int .i64 108, .int .i64 136, .int .i64 164, .int .i64 192, .int .i64 204, .int .i64 232, .int .i64 260, .int .i64 288, .int .i64 328, .int .i64 356, .int .i64 384]) (.int .i64 1)).run Tryd.prog w = .ok (.int .i64 40) w := fun _ => by kernel_rfl
        have HS := Lib.hid (lcT_succ 1 ((y - 1600) % 400) (by decide) 40 rfl)
        by_cases hc : 40 < (y - 1600) % 400
        all_goals
          go_wp2
          go_round
          case rel => exact ⟨1 + 1, by omega, rfl, by rw [HS.out]; first | (rw [if_pos hc]; go_num) | (rw [if_neg (by omega)]; go_num)⟩
          case measure => simp [intOf]; try omega
      · have hix : ∀ w, (Instr.index 55 (.agg #[.int .i64 12, .int .i64 40, .int .i64 68, .int .i64 96, .int .i64 108, .int .i64 136, .int .i64 164, .int .i64 192, .int .i64 204, .int .i64 232, .int .i64 260, .int .i64 288, .int .i64 328, .int .i64 356, .int .i64 384]) (.int .i64 2)).run Tryd.prog w = .ok (.int .i64 68) w := fun _ => by kernel_rfl
        have HS := Lib.hid (lcT_succ 2 ((y - 1600) % 400) (by decide) 68 rfl)
        by_cases hc : 68 < (y - 1600) % 400
        all_goals
          go_wp2
          go_round
          case rel => exact ⟨2 + 1, by omega, rfl, by rw [HS.out]; first | (rw [if_pos hc]; go_num) | (rw [if_neg (by omega)]; go_num)⟩
          case measure => simp [intOf]; try omega
      · have hix : ∀ w, (Instr.index 55 (.agg #[.int .i64 12, .int .i64 40, .int .i64 68, .int .i64 96, .int .i64 108, .int .i64 136, .int .i64 164, .int .i64 192, .int .i64 204, .int .i64 232, .int .i64 260, .int .i64 288, .int .i64 328, .int .i64 356, .int .i64 384]) (.int .i64 3)).run Tryd.prog w = .ok (.int .i64 96) w := fun _ => by kernel_rfl
        have HS := Lib.hid (lcT_succ 3 ((y - 1600) % 400) (by decide) 96 rfl)
        by_cases hc : 96 < (y - 1600) % 400
        all_goals
          go_wp2
          go_round
          case rel => exact ⟨3 + 1, by omega, rfl, by rw [HS.out]; first | (rw [if_pos hc]; go_num) | (rw [if_neg (by omega)]; go_num)⟩
          case measure => simp [intOf]; try omega
      · have hix : ∀ w, (Instr.index 55 (.agg #[.int .i64 12, .int .i64 40, .int .i64 68, .int .i64 96, .int .i64 108, .int .i64 136, .int .i64 164, .int .i64 192, .int .i64 204, .int .i64 232, .int .i64 260, .int .i64 288, .int .i64 328, .int .i64 356, .int .i64 384]) (.int .i64 4)).run Tryd.prog w = .ok (.int .i64 108) w := fun _ => by kernel_rfl
        have HS := Lib.hid (lcT_succ 4 ((y - 1600) % 400) (by decide) 108 rfl)
        by_cases hc : 108 < (y - 1600) % 400
        all_goals
          go_wp2
          go_round
          case rel => exact ⟨4 + 1, by omega, rfl, by rw [HS.out]; first | (rw [if_pos hc]; go_num) | (rw [if_neg (by omega)]; go_num)⟩
          case measure => simp [intOf]; try omega
      · have hix : ∀ w, (Instr.index 55 (.agg #[.int .i64 12, .int .i64 40, .int .i64 68, .int .i64 96, .int .i64 108, .int .i64 136, .int .i64 164, .int .i64 192, .int .i64 204, .int .i64 232, .int .i64 260, .int .i64 288, .int .i64 328, .int .i64 356, .int .i64 384]) (.int .i64 5)).run Tryd.prog w = .ok (.int .i64 136) w := fun _ => by kernel_rfl
        have HS := Lib.hid (lcT_succ 5 ((y - 1600) % 400) (by decide) 136 rfl)
        by_cases hc : 136 < (y - 1600) % 400
        all_goals
          go_wp2
          go_round
          case rel => exact ⟨5 + 1, by omega, rfl, by rw [HS.out]; first | (rw [if_pos hc]; go_num) | (rw [if_neg (by omega)]; go_num)⟩
          case measure => simp [intOf]; try omega
      · have hix : ∀ w, (Instr.index 55 (.agg #[.int .i64 12, .int .i64 40, .int .i64 68, .int .i64 96, .int .i64 108, .int .i64 136, .int .i64 164, .int .i64 192, .int .i64 204, .int .i64 232, .int .i64 260, .int .i64 288, .int .i64 328, .int .i64 356, .int .i64 384]) (.int .i64 6)).run Tryd.prog w = .ok (.int .i64 164) w := fun _ => by kernel_rfl
        have HS := Lib.hid (lcT_succ 6 ((y - 1600) % 400) (by decide) 164 rfl)
        by_cases hc : 164 < (y - 1600) % 400
        all_goals
          go_wp2
          go_round
          case rel => exact ⟨6 + 1, by omega, rfl, by rw [HS.out]; first | (rw [if_pos hc]; go_num) | (rw [if_neg (by omega)]; go_num)⟩
          case measure => simp [intOf]; try omega
      · have hix : ∀ w, (Instr.index 55 (.agg #[.int .i64 12, .int .i64 40, .int .i64 68, .int .i64 96, .int .i64 108, .int .i64 136, .int .i64 164, .int .i64 192, .int .i64 204, .int .i64 232, .int .i64 260, .int .i64 288, .int .i64 328, .int .i64 356, .int .i64 384]) (.int .i64 7)).run Tryd.prog w = .ok (.int .i64 192) w := fun _ => by kernel_rfl
        have HS := Lib.hid (lcT_succ 7 ((y - 1600) % 400) (by decide) 192 rfl)
        by_cases hc : 192 < (y - 1600) % 400
        all_goals
          go_wp2
          go_round
          case rel => exact ⟨7 + 1, by omega, rfl, by rw [HS.out]; first | (rw [if_pos hc]; go_num) | (rw [if_neg (by omega)]; go_num)⟩
          case measure => simp [intOf]; try omega
      · have hix : ∀ w, (Instr.index 55 (.agg #[.int .i64 12, .int .i64 40, .int .i64 68, .int .i64 96, .int .i64 108, .int .i64 136, .int .i64 164, .int .i64 192, .int .i64 204, .int .i64 232, .int .i64 260, .int .i64 288, .int .i64 328, .int .i64 356, .int .i64 384]) (.int .i64 8)).run Tryd.prog w = .ok (.int .i64 204) w := fun _ => by kernel_rfl
        have HS := Lib.hid (lcT_succ 8 ((y - 1600) % 400) (by decide) 204 rfl)
        by_cases hc : 204 < (y - 1600) % 400
        all_goals
          go_wp2
          go_round
          case rel => exact ⟨8 + 1, by omega, rfl, by rw [HS.out]; first | (rw [if_pos hc]; go_num) | (rw [if_neg (by omega)]; go_num)⟩
          case measure => simp [intOf]; try omega
      · have hix : ∀ w, (Instr.index 55 (.agg #[.int .i64 12, .int .i64 40, .int .i64 68, .int .i64 96, .int .i64 108, .int .i64 136, .int .i64 164, .int .i64 192, .int .i64 204, .int .i64 232, .int .i64 260, .int .i64 288, .int .i64 328, .int .i64 356, .int .i64 384]) (.int .i64 9)).run Tryd.prog w = .ok (.int .i64 232) w := fun _ => by kernel_rfl
        have HS := Lib.hid (lcT_succ 9 ((y - 1600) % 400) (by decide) 232 rfl)
        by_cases hc : 232 < (y - 1600) % 400
        all_goals
          go_wp2
          go_round
          case rel => exact ⟨9 + 1, by omega, rfl, by rw [HS.out]; first | (rw [if_pos hc]; go_num) | (rw [if_neg (by omega)]; go_num)⟩
          case measure => simp [intOf]; try omega
      · have hix : ∀ w, (Instr.index 55 (.agg #[.int .i64 12, .int .i64 40, .int .i64 68, .int .i64 96, .int .i64 108, .int .i64 136, .int .i64 164, .int .i64 192, .int .i64 204, .int .i64 232, .int .i64 260, .int .i64 288, .int .i64 328, .int .i64 356, .int .i64 384]) (.int .i64 10)).run Tryd.prog w = .ok (.int .i64 260) w := fun _ => by kernel_rfl
        have HS := Lib.hid (lcT_succ 10 ((y - 1600) % 400) (by decide) 260 rfl)
        by_cases hc : 260 < (y - 1600) % 400
        all_goals
          go_wp2
          go_round
          case rel => exact ⟨10 + 1, by omega, rfl, by rw [HS.out]; first | (rw [if_pos hc]; go_num) | (rw [if_neg (by omega)]; go_num)⟩
          case measure => simp [intOf]; try omega
      · have hix : ∀ w, (Instr.index 55 (.agg #[.int .i64 12, .int .i64 40, .int .i64 68, .int .i64 96, .int .i64 108, .int .i64 136, .int .i64 164, .int .i64 192, .int .i64 204, .int .i64 232, .int .i64 260, .int .i64 288, .int .i64 328, .int .i64 356, .int .i64 384]) (.int .i64 11)).run Tryd.prog w = .ok (.int .i64 288) w := fun _ => by kernel_rfl
        have HS := Lib.hid (lcT_succ 11 ((y - 1600) % 400) (by decide) 288 rfl)
        by_cases hc : 288 < (y - 1600) % 400
        all_goals
          go_wp2
          go_round
          case rel => exact ⟨11 + 1, by omega, rfl, by rw [HS.out]; first | (rw [if_pos hc]; go_num) | (rw [if_neg (by omega)]; go_num)⟩
          case measure => simp [intOf]; try omega
      · have hix : ∀ w, (Instr.index 55 (.agg #[.int .i64 12, .int .i64 40, .int .i64 68, .int .i64 96, .int .i64 108, .int .i64 136, .int .i64 164, .int .i64 192, .int .i64 204, .int .i64 232, .int .i64 260, .int .i64 288, .int .i64 328, .int .i64 356, .int .i64 384]) (.int .i64 12)).run Tryd.prog w = .ok (.int .i64 328) w := fun _ => by kernel_rfl
        have HS := Lib.hid (lcT_succ 12 ((y - 1600) % 400) (by decide) 328 rfl)
        by_cases hc : 328 < (y - 1600) % 400
        all_goals
          go_wp2
          go_round
          case rel => exact ⟨12 + 1, by omega, rfl, by rw [HS.out]; first | (rw [if_pos hc]; go_num) | (rw [if_neg (by omega)]; go_num)⟩
          case measure => simp [intOf]; try omega
      · have hix : ∀ w, (Instr.index 55 (.agg #[.int .i64 12, .int .i64 40, .int .i64 68, .int .i64 96, .int .i64 108, .int .i64 136, .int .i64 164, .int .i64 192, .int .i64 204, .int .i64 232, .int .i64 260, .int .i64 288, .int .i64 328, .int .i64 356, .int .i64 384]) (.int .i64 13)).run Tryd.prog w = .ok (.int .i64 356) w := fun _ => by kernel_rfl
        have HS := Lib.hid (lcT_succ 13 ((y - 1600) % 400) (by decide) 356 rfl)
        by_cases hc : 356 < (y - 1600) % 400
        all_goals
          go_wp2
          go_round
          case rel => exact ⟨13 + 1, by omega, rfl, by rw [HS.out]; first | (rw [if_pos hc]; go_num) | (rw [if_neg (by omega)]; go_num)⟩
          case measure => simp [intOf]; try omega
      · have hix : ∀ w, (Instr.index 55 (.agg #[.int .i64 12, .int .i64 40, .int .i64 68, .int .i64 96, .int .i64 108, .int .i64 136, .int .i64 164, .int .i64 192, .int .i64 204, .int .i64 232, .int .i64 260, .int .i64 288, .int .i64 328, .int .i64 356, .int .i64 384]) (.int .i64 14)).run Tryd.prog w = .ok (.int .i64 384) w := fun _ => by kernel_rfl
        have HS := Lib.hid (lcT_succ 14 ((y - 1600) % 400) (by decide) 384 rfl)
        by_cases hc : 384 < (y - 1600) % 400
        all_goals
          go_wp2
          go_round
          case rel => exact ⟨14 + 1, by omega, rfl, by rw [HS.out]; first | (rw [if_pos hc]; go_num) | (rw [if_neg (by omega)]; go_num)⟩
          case measure => simp [intOf]; try omega
    · obtain rfl : k = 15 := by omega
      go_wp2
      go_ret
      exact ⟨ret_int (by rw [lcT_all]; rfl), rfl⟩
end Go.Proofs.YtjphkgnngkbgcaaDoor
