/- The contract of the reference's Compose. -/
import Derived.Test.YthendocboifjnaaCm2
namespace Go.Proofs.Ythendocboifjnaa
open Go.ChangeShapes Go.WideShapes Go.ChangeAt Go.RowKit

set_option maxHeartbeats 8000000 in
theorem comp_ref (r s : Int) (w : World) : Calls Try.prog 23 #[.int .i64 r, .int .i64 s] w (IntsPost (compL r s) w) := by
  obtain ⟨i0, hi, hz0, hz1, hz2⟩ := info_parts infoP
  obtain ⟨j0, hj, hjz0, hjz1, hjz2⟩ := info_parts infoI
  go_enter Try.func23, Try.ntmps23
  go_wp2_with fail
  have hW : (w.alloc (.cells no14 43)).heap.size = w.heap.size + 1 := alsz _ _
  have E0 := Lib.hid (Ext.refl (w.alloc (.cells no14 43)))
  have HW := Lib.hid hW
  clear hW
  go_loopw [6, 7] (fun v i wr => ∃ k : Nat, k ≤ 5 ∧ i = .int .i64 k ∧ wr.ownsRow (w.heap.size + 1) 23 2 v (off k) (cellsL (psL.take (off k))) ∧ Ext (w.alloc (.cells no14 43)) wr) (fun _ i _ => 5 - (intOf i).toNat)
  case atStart => exact ⟨0, by omega, rfl, World.ownsRow_nil _ _ _ _, E0.out⟩
  case round =>
    obtain ⟨k, hk, rfl, hown, hE⟩ := hrel
    by_cases hlt : k < 5
    · obtain ⟨n1, n2⟩ := off_next k (by omega)
      have N1 := Lib.hid n1
      clear n1
      have hd : decide ((k : Int) < 5) = true := decide_eq_true (by omega)
      go_wp2_with fail
      go_loopw [6, 8] (fun v t wr => ∃ m : Nat, k < m ∧ m ≤ 6 ∧ t = .int .i64 m ∧ wr.ownsRow (w.heap.size + 1) 23 2 v (off k + (m - k - 1)) (cellsL (psL.take (off k + (m - k - 1)))) ∧ Ext (w.alloc (.cells no14 43)) wr) (fun _ t _ => 6 - (intOf t).toNat)
      case atStart => exact ⟨k + 1, by omega, by omega, by go_num, by rw [show off k + (k + 1 - k - 1) = off k by omega]; exact hown, hE⟩
      case round =>
        obtain ⟨m, hm0, hm, rfl, hown2, hE2⟩ := hrel
        clear hown hE
        by_cases hlt2 : m < 6
        · obtain ⟨f1, f2⟩ := off_facts k (by omega) m hlt2 hm0
          have F2 := Lib.hid f2
          clear f2
          have hb2 : w.heap.size + 1 ≤ wr.heap.size := by have := hE2.2.2; rw [HW.out] at this; exact this
          go_wp2_with (at_builtin; refine wpList_append_own _ rfl _ _ 40 rfl (w.heap.size + 1) 23 i0 (.agg #[.int .i64 0, .int .i64 0]) 2 16 Try.underlying40 hi hz0 hz1 hz2 rfl (by decide) _ _ _ rfl (hown2.alloc _) ⟨wr.heap.size, 0, none⟩ 1 1 [.int .i64 k, .int .i64 m] rfl rfl (news1 _ _ _ _) (one2 _ _) (by unfold maxLen; omega) (by omega) (by simp; omega) ?_; intro v6 w6 hown6 hgrow6 hnil6; have hE6 : Ext (w.alloc (.cells no14 43)) w6 := ext_grownBy (hE2.alloc _ _) hgrow6 (fun kk h => by rw [HW.out]; exact (hown2.lt kk h).1); have HO := Lib.hid hown6; clear hown6 hgrow6 hnil6)
          go_roundw
          case rel => exact ⟨m + 1, by omega, by omega, by go_num, by have := HO.out; rw [show [Value.int .i64 k, Value.int .i64 m] = cellsL [((k : Int), (m : Int))] from rfl, ← cellsL_append, ← F2.out] at this; rw [show off k + (m + 1 - k - 1) = off k + (m - k - 1) + 1 by omega]; exact this, hE6⟩
          case measure => simp [intOf]; omega
        · obtain rfl : m = 6 := by omega
          go_wp2_with fail
          go_roundw
          case rel => exact ⟨k + 1, by omega, by go_num, by rw [← N1.out]; exact hown2, hE2⟩
          case measure => simp [intOf]; omega
    · obtain rfl : k = 5 := by omega
      rw [show ((5 : Nat) : Int) = 5 from rfl]
      obtain ⟨W1, rfl⟩ : ∃ x, x = wr := ⟨_, rfl⟩
      have own1 : W1.ownsRow (w.heap.size + 1) 23 2 _ 15 (cellsL psL) := hown
      obtain ⟨g, cap, rfl, hb, hlt2⟩ := own1.form (by decide)
      have hg0 : w.heap.size < g := by omega
      have S1 := Lib.hid (smp_of own1)
      have T1 := Lib.hid (st_start hE (C1 r s 0) (C1_zero r s))
      obtain ⟨hcap, hcm⟩ := cap_of own1
      unfold maxLen at hcm
      clear own1 hE hb hlt hlt2 hown hk
      go_wp2_with fail
      go_loopw [35] (fun i wr => ∃ k : Nat, k ≤ 15 ∧ i = .int .i64 k ∧ St w W1 w.heap.size (C1 r s k) wr) (fun i _ => 15 - (intOf i).toNat)
      case atStart => exact ⟨0, by omega, rfl, T1.out⟩
      case round =>
        obtain ⟨k, hk, rfl, hS⟩ := hrel
        obtain ⟨wA, rfl⟩ : ∃ x, x = wr := ⟨_, rfl⟩
        by_cases hlt : k < 15
        · have hd : decide ((k : Int) < 15) = true := decide_eq_true (by omega)
          obtain ⟨a0, a1⟩ := (S1.out.st (by omega) hS) k hlt
          go_wp2_with fail
          have T2 := Lib.hid (hS.alloc #[.int .i64 (psF k), .int .i64 (psT k)] 23)
          have bA0 := al0 wA (.int .i64 (psF k)) (.int .i64 (psT k)) 23
          have bA1 := al1 wA (.int .i64 (psF k)) (.int .i64 (psT k)) 23
          have hA : w.heap.size < wA.heap.size := hS.size
          generalize wA.alloc (.cells #[.int .i64 (psF k), .int .i64 (psT k)] 23) = WA at T2 bA0 bA1 ⊢
          have BA0 := Lib.hid bA0
          have BA1 := Lib.hid bA1
          clear a0 a1 hS bA0 bA1
          go_loopw [41] (fun i wr => ∃ m : Nat, m ≤ 15 ∧ i = .int .i64 m ∧ St w WA w.heap.size (fun j => C1 r s k j || C2 r s k m j) wr) (fun i _ => 15 - (intOf i).toNat)
          case atStart => exact ⟨0, by omega, rfl, T2.out.here.same fun j => by rw [C2_zero, Bool.or_false]⟩
          case round =>
            obtain ⟨m, hm, rfl, hT⟩ := hrel
            obtain ⟨wB, rfl⟩ : ∃ x, x = wr := ⟨_, rfl⟩
            by_cases hlt2 : m < 15
            · have hd2 : decide ((m : Int) < 15) = true := decide_eq_true (by omega)
              obtain ⟨b0, b1⟩ := ((S1.out.st (by omega) T2.out).st (by omega) hT) m hlt2
              have c0 := hT.2.2.1 _ _ _ (by omega) BA0.out
              have c1 := hT.2.2.1 _ _ _ (by omega) BA1.out
              have hB : w.heap.size < wB.heap.size := hT.size
              have TB := Lib.hid (hT.alloc #[.int .i64 (psF m), .int .i64 (psT m)] 23)
              have DB0 := Lib.hid (al0 wB (.int .i64 (psF m)) (.int .i64 (psT m)) 23)
              have DB1 := Lib.hid (al1 wB (.int .i64 (psF m)) (.int .i64 (psT m)) 23)
              have hAB : wA.heap.size < wB.heap.size := World.block_lt_of_cell? _ _ c0
              clear hT
              by_cases e : relI k m = r
              · have HX := Lib.hid ((relI_val hlt hlt2).trans e)
                have HE := Lib.hid e
                clear e
                go_wp2_with fail
                refine (relr_at _ _ _ _ _ _ HX.out).mono ?_; rintro e wC ⟨rfl, hgC⟩
                have T3 := Lib.hid (TB.out.grown hgC)
                have EB0 := Lib.hid (kept hgC DB0.out)
                have EB1 := Lib.hid (kept hgC DB1.out)
                clear b0 b1 c0 c1 hgC TB DB0 DB1
                go_wp2_with fail
                go_loopw [52] (fun i wr => ∃ n : Nat, n ≤ 15 ∧ i = .int .i64 n ∧ St w wC w.heap.size (fun j => (C1 r s k j || C2 r s k m j) || C3 s k m n j) wr) (fun i _ => 15 - (intOf i).toNat)
                case atStart => exact ⟨0, by omega, rfl, T3.out.here.same fun j => by rw [C3_zero, Bool.or_false]⟩
                case round =>
                  obtain ⟨n, hn, rfl, hU⟩ := hrel
                  obtain ⟨wD, rfl⟩ : ∃ x, x = wr := ⟨_, rfl⟩
                  by_cases hlt3 : n < 15
                  · have hd3 : decide ((n : Int) < 15) = true := decide_eq_true (by omega)
                    obtain ⟨b0, b1⟩ := (((S1.out.st (by omega) T2.out).st (by omega) T3.out).st (by omega) hU) n hlt3
                    have c0 := hU.2.2.1 _ _ _ (by omega) (T3.out.2.2.1 _ _ _ (by omega) BA0.out)
                    have c1 := hU.2.2.1 _ _ _ (by omega) (T3.out.2.2.1 _ _ _ (by omega) BA1.out)
                    have d0 := hU.2.2.1 _ _ _ (by omega) EB0.out
                    have d1 := hU.2.2.1 _ _ _ (by omega) EB1.out
                    have UD := Lib.hid (hU.alloc #[.int .i64 (psF n), .int .i64 (psT n)] 23)
                    have FD0 := Lib.hid (al0 wD (.int .i64 (psF n)) (.int .i64 (psT n)) 23)
                    have FD1 := Lib.hid (al1 wD (.int .i64 (psF n)) (.int .i64 (psT n)) 23)
                    have hAD : wA.heap.size < wD.heap.size := World.block_lt_of_cell? _ _ c0
                    have hBD : wB.heap.size < wD.heap.size := World.block_lt_of_cell? _ _ d0
                    have hD : w.heap.size < wD.heap.size := hU.size
                    clear hU
                    by_cases e : relI m n = s
                    · have HY := Lib.hid ((relI_val hlt2 hlt3).trans e)
                      obtain ⟨j, hj, hj2⟩ : ∃ j : Nat, relI k n = (j : Int) ∧ j < 14 := ⟨(relI k n).toNat, by have := relI_bd hlt hlt3; omega, by have := relI_bd hlt hlt3; omega⟩
                      have HZ := Lib.hid ((relI_val hlt hlt3).trans hj)
                      have HE2 := Lib.hid e
                      have HJ := Lib.hid hj
                      clear e hj
                      go_wp2_with fail
                      refine (relr_at _ _ _ _ _ _ HY.out).mono ?_; rintro e wE ⟨rfl, hgE⟩
                      have UE := Lib.hid (UD.out.grown hgE)
                      have p0 := kept hgE (kept ((Grown.refl _).alloc #[.int .i64 (psF n), .int .i64 (psT n)] 23) c0)
                      have p1 := kept hgE (kept ((Grown.refl _).alloc #[.int .i64 (psF n), .int .i64 (psT n)] 23) c1)
                      have q0 := kept hgE FD0.out
                      have q1 := kept hgE FD1.out
                      clear b0 b1 c0 c1 d0 d1 hgE UD FD0 FD1
                      go_wp2_with fail
                      refine (relr_at _ _ _ _ _ _ HZ.out).mono ?_; rintro e wF ⟨rfl, hgF⟩
                      have UF := Lib.hid (UE.out.grown hgF)
                      have f0 := UF.out.2.2.2.1 j hj2
                      have f1 := UF.out.2.2.2.2 j
                      clear p0 p1 q0 q1 hgF UE
                      go_wp2_with fail
                      go_roundw
                      case rel => exact ⟨n + 1, by omega, by go_num, UF.out.set hj2 (Nat.le_refl _) (fun i => by rw [C3_succ, HE2.out, HJ.out, show decide ((j : Int) = (i : Int)) = decide (j = i) from decide_eq_decide.2 (by omega)]; simp [Bool.or_assoc])⟩
                      case measure => simp [intOf]; omega
                    · obtain ⟨x, hx⟩ : ∃ x, relI m n = x := ⟨_, rfl⟩
                      have n1 : (x == s) = false := by rw [← hx]; simp [e]
                      have HY := Lib.hid ((relI_val hlt2 hlt3).trans hx)
                      have HE2 := Lib.hid e
                      clear e hx
                      go_wp2_with fail
                      refine (relr_at _ _ _ _ _ _ HY.out).mono ?_; rintro e wE ⟨rfl, hgE⟩
                      have UE := Lib.hid (UD.out.grown hgE)
                      clear b0 b1 c0 c1 d0 d1 hgE UD FD0 FD1
                      go_wp2_with fail
                      go_roundw
                      case rel => exact ⟨n + 1, by omega, by go_num, UE.out.same (fun i => by rw [C3_succ]; simp [HE2.out])⟩
                      case measure => simp [intOf]; omega
                  · obtain rfl : n = 15 := by omega
                    go_wp2_with fail
                    go_roundw
                    case rel => exact ⟨m + 1, by omega, by go_num, (T3.out.back hU).same (fun i => by rw [C2_succ, HE.out]; simp [Bool.or_assoc])⟩
                    case measure => simp [intOf]; omega
              · obtain ⟨x, hx⟩ : ∃ x, relI k m = x := ⟨_, rfl⟩
                have n1 : (x != r) = true := by rw [← hx]; simp [e]
                have HX := Lib.hid ((relI_val hlt hlt2).trans hx)
                have HE := Lib.hid e
                clear e hx
                go_wp2_with fail
                refine (relr_at _ _ _ _ _ _ HX.out).mono ?_; rintro e wC ⟨rfl, hgC⟩
                have T3 := Lib.hid (TB.out.grown hgC)
                clear b0 b1 c0 c1 hgC TB DB0 DB1
                go_wp2_with fail
                go_roundw
                case rel => exact ⟨m + 1, by omega, by go_num, T3.out.same (fun i => by rw [C2_succ]; simp [HE.out])⟩
                case measure => simp [intOf]; omega
            · obtain rfl : m = 15 := by omega
              go_wp2_with fail
              go_roundw
              case rel => exact ⟨k + 1, by omega, by go_num, (T2.out.back hT).same (fun i => by rw [C1_succ])⟩
              case measure => simp [intOf]; omega
        · obtain rfl : k = 15 := by omega
          rw [show ((15 : Nat) : Int) = 15 from rfl]
          have hE : Ext w wA := hS.1
          have hAs : w.heap.size < wA.heap.size := hS.size
          have HS := Lib.hid (show ∀ j, j < 14 → wA.cell? ⟨w.heap.size, j, none⟩ = some (.bool (posB r s j)) from hS.2.2.2.1)
          clear hS
          go_wp2_with fail
          go_loopw [15, 16] (fun v i wr => ∃ k : Nat, 1 ≤ k ∧ k ≤ 14 ∧ i = .int .i64 k ∧ wr.ownsRow wA.heap.size 3 1 v (compT r s k).length (cellsI (compT r s k)) ∧ Ext w wr ∧ wA.heap.size ≤ wr.heap.size ∧ ∀ j, j < 14 → wr.cell? ⟨w.heap.size, j, none⟩ = some (.bool (posB r s j))) (fun _ i _ => 14 - (intOf i).toNat)
          case atStart => exact ⟨1, by omega, by omega, rfl, by rw [compT_one]; exact World.ownsRow_nil _ _ _ _, hE, Nat.le_refl _, HS.out⟩
          case round =>
            obtain ⟨k, hk0, hk, rfl, hown, hEr, hbr, hC⟩ := hrel
            have HC := Lib.hid hC
            clear hC
            by_cases hlt : k < 14
            · have hln := compT_len r s k
              have hck := HC.out k hlt
              cases hp : posB r s k
              · rw [hp] at hck
                have HP := Lib.hid hp
                clear hp
                go_wp2_with fail
                go_roundw
                case rel => exact ⟨k + 1, by omega, by omega, by go_num, by rw [compT_no HP.out]; exact hown, hEr, hbr, HC.out⟩
                case measure => simp [intOf]; omega
              · rw [hp] at hck
                have HP := Lib.hid hp
                clear hp
                go_wp2_with (at_builtin; refine wpList_append_own _ rfl _ _ 32 rfl wA.heap.size 3 j0 (.int .i64 0) 1 8 Try.underlying32 hj hjz0 hjz1 hjz2 rfl (by decide) _ _ _ rfl (hown.alloc _) ⟨wr.heap.size, 0, none⟩ 1 1 [.int .i64 k] rfl rfl (cell_one_new _ _ _) (by intro u hu; simp at hu; subst hu; rfl) (by unfold maxLen; omega) (by omega) (by simp; omega) ?_; intro v6 w6 hown6 hgrow6 hnil6; have hE6 : Ext w w6 := ext_grownBy (hEr.alloc _ _) hgrow6 (fun kk h => by have := (hown.lt kk h).1; omega); have HC6 := Lib.hid (fun j (hj : j < 14) => grow_cell hgrow6 (kept ((Grown.refl _).alloc _ _) (HC.out j hj)) (fun kk h => by have := (hown.lt kk h).1; omega)); have hs6 : wA.heap.size ≤ w6.heap.size := by { have := hgrow6.size; simp at this; omega }; have HO := Lib.hid hown6; clear hown6 hgrow6 hnil6)
                go_roundw
                case rel => exact ⟨k + 1, by omega, by omega, by go_num, by rw [compT_yes HP.out, List.length_append, cellsI_append]; exact HO.out, hE6, hs6, HC6.out⟩
                case measure => simp [intOf]; omega
            · obtain rfl : k = 14 := by omega
              go_wp2_with fail
              go_ret
              exact ⟨_, rfl, owns_zero hown, hEr⟩
end Go.Proofs.Ythendocboifjnaa
