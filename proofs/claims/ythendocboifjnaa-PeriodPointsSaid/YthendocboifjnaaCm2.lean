/- The contract of period's Compose. -/
import Derived.Test.YthendocboifjnaaCm1
import Derived.Test.YthendocboifjnaaPr2
import Derived.Deep.AppendLies
import Derived.Maps.AppendAt
namespace Go.Proofs.Ythendocboifjnaa
open Go.ChangeShapes Go.WideShapes Go.ChangeAt Go.RowKit

abbrev no14 : Array Value := #[.bool false, .bool false, .bool false, .bool false, .bool false, .bool false, .bool false, .bool false, .bool false, .bool false, .bool false, .bool false, .bool false, .bool false]
theorem no14_at (w : World) (t : TypeId) (j : Nat) (hj : j < 14) : (w.alloc (.cells no14 t)).cell? ⟨w.heap.size, j, none⟩ = some (.bool false) := by
  rw [World.cell?, (MapKept.heap_alloc w _).1]
  have : ∀ j, j < 14 → no14[j]? = some (.bool false) := by
    intro j hj
    match j, hj with
    | 0, _ | 1, _ | 2, _ | 3, _ | 4, _ | 5, _ | 6, _ | 7, _ | 8, _ | 9, _ | 10, _ | 11, _ | 12, _ | 13, _ => rfl
  exact this j hj
theorem st_start {w W1 : World} {t : TypeId} (h : Ext (w.alloc (.cells no14 t)) W1) (p : Nat → Bool) (hp : ∀ j, p j = false) : St w W1 w.heap.size p W1 := by
  refine ⟨((Ext.refl _).alloc _ _).trans h, Nat.le_refl _, fun _ _ _ _ e => e, fun j hj => ?_, fun j => ?_⟩
  · rw [hp]; exact h.keeps (no14_at w t j hj)
  · rw [h.2.1 _ (by simp), frozen?_alloc_cells]; exact frozen_new _ _ _ (Nat.le_refl _)

/-- the samples as a reader sees them, as long as their cells stay -/
def Smp (g : Nat) (X : World) : Prop := ∀ k, k < 15 → X.cell? ⟨g, k * 2, none⟩ = some (.int .i64 (psF k)) ∧ X.cell? ⟨g, k * 2 + 1, none⟩ = some (.int .i64 (psT k))
theorem smp_of {X : World} {base g cap : Nat} {t : TypeId} (ho : X.ownsRow base t 2 (.slice (some ⟨g, 0, none⟩) 15 cap) 15 (cellsL psL)) : Smp g X := fun k hk => by
  rw [ho.cellAt (k * 2) (by omega), ho.cellAt (k * 2 + 1) (by omega)]; exact ps_at k hk
theorem Smp.st {w W1 : World} {B : Nat} {p : Nat → Bool} {X : World} {g : Nat} (h : Smp g W1) (hg : g ≠ B) (k : St w W1 B p X) : Smp g X := fun i hi => ⟨k.2.2.1 _ _ _ hg (h i hi).1, k.2.2.1 _ _ _ hg (h i hi).2⟩
theorem Smp.grown {X Y : World} {g : Nat} (h : Smp g X) (k : Grown X Y) : Smp g Y := fun i hi => ⟨kept k (h i hi).1, kept k (h i hi).2⟩
theorem cap_of {X : World} {base g cap n : Nat} {e : TypeId} {size : Nat} {xs : List Value} (ho : X.ownsRow base e size (.slice (some ⟨g, 0, none⟩) n cap) n xs) : n ≤ cap ∧ cap ≤ maxLen := by
  rcases ho.2 with ⟨h, _⟩ | ⟨g', cap', cur, hv, _, _, h1, h2, _⟩
  · cases h
  · cases hv; exact ⟨h1, h2⟩

theorem at14 (r s : Int) (k : Nat) (hk : k < 14) : ∀ w, (Instr.index 43 (.agg #[.bool (posB r s 0), .bool (posB r s 1), .bool (posB r s 2), .bool (posB r s 3), .bool (posB r s 4), .bool (posB r s 5), .bool (posB r s 6), .bool (posB r s 7), .bool (posB r s 8), .bool (posB r s 9), .bool (posB r s 10), .bool (posB r s 11), .bool (posB r s 12), .bool (posB r s 13)]) (.int .i64 (k : Int))).run Try.prog w = .ok (.bool (posB r s k)) w := by
  match k, hk with
  | 0, _ | 1, _ | 2, _ | 3, _ | 4, _ | 5, _ | 6, _ | 7, _ | 8, _ | 9, _ | 10, _ | 11, _ | 12, _ | 13, _ => exact fun _ => by kernel_rfl
set_option maxHeartbeats 8000000 in
theorem comp_per (r s : Int) (w : World) : Calls Try.prog 22 #[.int .i64 r, .int .i64 s] w (IntsPost (compL r s) w) := by
  obtain ⟨j0, hj, hjz0, hjz1, hjz2⟩ := info_parts infoI
  go_enter Try.func22, Try.ntmps22
  go_wp2_with fail
  refine (samples _).mono ?_; rintro e W1 ⟨v, rfl, own1, hE1⟩
  obtain ⟨g, cap, rfl, hb, hlt⟩ := own1.form (by decide)
  have hg0 : w.heap.size < g := by simp at hb; omega
  have S1 := Lib.hid (smp_of own1)
  have T1 := Lib.hid (st_start hE1 (C1 r s 0) (C1_zero r s))
  obtain ⟨hcap, hcm⟩ := cap_of own1
  unfold maxLen at hcm
  clear own1 hE1 hb hlt
  go_wp2_with fail
  go_loopw [19] (fun i wr => ∃ k : Nat, k ≤ 15 ∧ i = .int .i64 k ∧ St w W1 w.heap.size (C1 r s k) wr) (fun i _ => 15 - (intOf i).toNat)
  case atStart => exact ⟨0, by omega, rfl, T1.out⟩
  case round =>
    obtain ⟨k, hk, rfl, hS⟩ := hrel
    obtain ⟨wA, rfl⟩ : ∃ x, x = wr := ⟨_, rfl⟩
    by_cases hlt : k < 15
    · have hd : decide ((k : Int) < 15) = true := decide_eq_true (by omega)
      obtain ⟨a0, a1⟩ := (S1.out.st (by omega) hS) k hlt
      go_wp2_with fail
      have T2 := Lib.hid (hS.alloc #[.int .i64 (psF k), .int .i64 (psT k)] 23)
      have bA0 := al0 wA (.int .i64 (psF k)) (.int .i64 (psT k)) 23
      have bA1 := al1 wA (.int .i64 (psF k)) (.int .i64 (psT k)) 23
      have hA : w.heap.size < wA.heap.size := hS.size
      generalize wA.alloc (.cells #[.int .i64 (psF k), .int .i64 (psT k)] 23) = WA at T2 bA0 bA1 ⊢
      have BA0 := Lib.hid bA0
      have BA1 := Lib.hid bA1
      clear a0 a1 hS bA0 bA1
      go_loopw [25] (fun i wr => ∃ m : Nat, m ≤ 15 ∧ i = .int .i64 m ∧ St w WA w.heap.size (fun j => C1 r s k j || C2 r s k m j) wr) (fun i _ => 15 - (intOf i).toNat)
      case atStart => exact ⟨0, by omega, rfl, T2.out.here.same fun j => by rw [C2_zero, Bool.or_false]⟩
      case round =>
        obtain ⟨m, hm, rfl, hT⟩ := hrel
        obtain ⟨wB, rfl⟩ : ∃ x, x = wr := ⟨_, rfl⟩
        by_cases hlt2 : m < 15
        · have hd2 : decide ((m : Int) < 15) = true := decide_eq_true (by omega)
          obtain ⟨b0, b1⟩ := ((S1.out.st (by omega) T2.out).st (by omega) hT) m hlt2
          have c0 := hT.2.2.1 _ _ _ (by omega) BA0.out
          have c1 := hT.2.2.1 _ _ _ (by omega) BA1.out
          have hB : w.heap.size < wB.heap.size := hT.size
          have TB := Lib.hid (hT.alloc #[.int .i64 (psF m), .int .i64 (psT m)] 23)
          have DB0 := Lib.hid (al0 wB (.int .i64 (psF m)) (.int .i64 (psT m)) 23)
          have DB1 := Lib.hid (al1 wB (.int .i64 (psF m)) (.int .i64 (psT m)) 23)
          have hAB : wA.heap.size < wB.heap.size := World.block_lt_of_cell? _ _ c0
          clear hT
          by_cases e : relI k m = r
          · have HX := Lib.hid ((relI_val hlt hlt2).trans e)
            have HE := Lib.hid e
            clear e
            go_wp2_with fail
            refine (relp_at _ _ _ _ _ _ HX.out).mono ?_; rintro e wC ⟨rfl, hgC⟩
            have T3 := Lib.hid (TB.out.grown hgC)
            have EB0 := Lib.hid (kept hgC DB0.out)
            have EB1 := Lib.hid (kept hgC DB1.out)
            clear b0 b1 c0 c1 hgC TB DB0 DB1
            go_wp2_with fail
            go_loopw [36] (fun i wr => ∃ n : Nat, n ≤ 15 ∧ i = .int .i64 n ∧ St w wC w.heap.size (fun j => (C1 r s k j || C2 r s k m j) || C3 s k m n j) wr) (fun i _ => 15 - (intOf i).toNat)
            case atStart => exact ⟨0, by omega, rfl, T3.out.here.same fun j => by rw [C3_zero, Bool.or_false]⟩
            case round =>
              obtain ⟨n, hn, rfl, hU⟩ := hrel
              obtain ⟨wD, rfl⟩ : ∃ x, x = wr := ⟨_, rfl⟩
              by_cases hlt3 : n < 15
              · have hd3 : decide ((n : Int) < 15) = true := decide_eq_true (by omega)
                obtain ⟨b0, b1⟩ := (((S1.out.st (by omega) T2.out).st (by omega) T3.out).st (by omega) hU) n hlt3
                have c0 := hU.2.2.1 _ _ _ (by omega) (T3.out.2.2.1 _ _ _ (by omega) BA0.out)
                have c1 := hU.2.2.1 _ _ _ (by omega) (T3.out.2.2.1 _ _ _ (by omega) BA1.out)
                have d0 := hU.2.2.1 _ _ _ (by omega) EB0.out
                have d1 := hU.2.2.1 _ _ _ (by omega) EB1.out
                have UD := Lib.hid (hU.alloc #[.int .i64 (psF n), .int .i64 (psT n)] 23)
                have FD0 := Lib.hid (al0 wD (.int .i64 (psF n)) (.int .i64 (psT n)) 23)
                have FD1 := Lib.hid (al1 wD (.int .i64 (psF n)) (.int .i64 (psT n)) 23)
                have hAD : wA.heap.size < wD.heap.size := World.block_lt_of_cell? _ _ c0
                have hBD : wB.heap.size < wD.heap.size := World.block_lt_of_cell? _ _ d0
                have hD : w.heap.size < wD.heap.size := hU.size
                clear hU
                by_cases e : relI m n = s
                · have HY := Lib.hid ((relI_val hlt2 hlt3).trans e)
                  obtain ⟨j, hj, hj2⟩ : ∃ j : Nat, relI k n = (j : Int) ∧ j < 14 := ⟨(relI k n).toNat, by have := relI_bd hlt hlt3; omega, by have := relI_bd hlt hlt3; omega⟩
                  have HZ := Lib.hid ((relI_val hlt hlt3).trans hj)
                  have HE2 := Lib.hid e
                  have HJ := Lib.hid hj
                  clear e hj
                  go_wp2_with fail
                  refine (relp_at _ _ _ _ _ _ HY.out).mono ?_; rintro e wE ⟨rfl, hgE⟩
                  have UE := Lib.hid (UD.out.grown hgE)
                  have p0 := kept hgE (kept ((Grown.refl _).alloc #[.int .i64 (psF n), .int .i64 (psT n)] 23) c0)
                  have p1 := kept hgE (kept ((Grown.refl _).alloc #[.int .i64 (psF n), .int .i64 (psT n)] 23) c1)
                  have q0 := kept hgE FD0.out
                  have q1 := kept hgE FD1.out
                  clear b0 b1 c0 c1 d0 d1 hgE UD FD0 FD1
                  go_wp2_with fail
                  refine (relp_at _ _ _ _ _ _ HZ.out).mono ?_; rintro e wF ⟨rfl, hgF⟩
                  have UF := Lib.hid (UE.out.grown hgF)
                  have f0 := UF.out.2.2.2.1 j hj2
                  have f1 := UF.out.2.2.2.2 j
                  clear p0 p1 q0 q1 hgF UE
                  go_wp2_with fail
                  go_roundw
                  case rel => exact ⟨n + 1, by omega, by go_num, UF.out.set hj2 (Nat.le_refl _) (fun i => by rw [C3_succ, HE2.out, HJ.out, show decide ((j : Int) = (i : Int)) = decide (j = i) from decide_eq_decide.2 (by omega)]; simp [Bool.or_assoc])⟩
                  case measure => simp [intOf]; omega
                · obtain ⟨x, hx⟩ : ∃ x, relI m n = x := ⟨_, rfl⟩
                  have n1 : (x == s) = false := by rw [← hx]; simp [e]
                  have HY := Lib.hid ((relI_val hlt2 hlt3).trans hx)
                  have HE2 := Lib.hid e
                  clear e hx
                  go_wp2_with fail
                  refine (relp_at _ _ _ _ _ _ HY.out).mono ?_; rintro e wE ⟨rfl, hgE⟩
                  have UE := Lib.hid (UD.out.grown hgE)
                  clear b0 b1 c0 c1 d0 d1 hgE UD FD0 FD1
                  go_wp2_with fail
                  go_roundw
                  case rel => exact ⟨n + 1, by omega, by go_num, UE.out.same (fun i => by rw [C3_succ]; simp [HE2.out])⟩
                  case measure => simp [intOf]; omega
              · obtain rfl : n = 15 := by omega
                go_wp2_with fail
                go_roundw
                case rel => exact ⟨m + 1, by omega, by go_num, (T3.out.back hU).same (fun i => by rw [C2_succ, HE.out]; simp [Bool.or_assoc])⟩
                case measure => simp [intOf]; omega
          · obtain ⟨x, hx⟩ : ∃ x, relI k m = x := ⟨_, rfl⟩
            have n1 : (x != r) = true := by rw [← hx]; simp [e]
            have HX := Lib.hid ((relI_val hlt hlt2).trans hx)
            have HE := Lib.hid e
            clear e hx
            go_wp2_with fail
            refine (relp_at _ _ _ _ _ _ HX.out).mono ?_; rintro e wC ⟨rfl, hgC⟩
            have T3 := Lib.hid (TB.out.grown hgC)
            clear b0 b1 c0 c1 hgC TB DB0 DB1
            go_wp2_with fail
            go_roundw
            case rel => exact ⟨m + 1, by omega, by go_num, T3.out.same (fun i => by rw [C2_succ]; simp [HE.out])⟩
            case measure => simp [intOf]; omega
        · obtain rfl : m = 15 := by omega
          go_wp2_with fail
          go_roundw
          case rel => exact ⟨k + 1, by omega, by go_num, (T2.out.back hT).same (fun i => by rw [C1_succ])⟩
          case measure => simp [intOf]; omega
    · obtain rfl : k = 15 := by omega
      rw [show ((15 : Nat) : Int) = 15 from rfl]
      have hE : Ext w wA := hS.1
      have hS : ∀ j, j < 14 → wA.cell? ⟨w.heap.size, j, none⟩ = some (.bool (posB r s j)) := hS.2.2.2.1
      have g0 := hS 0 (by omega)
      have g1 := hS 1 (by omega)
      have g2 := hS 2 (by omega)
      have g3 := hS 3 (by omega)
      have g4 := hS 4 (by omega)
      have g5 := hS 5 (by omega)
      have g6 := hS 6 (by omega)
      have g7 := hS 7 (by omega)
      have g8 := hS 8 (by omega)
      have g9 := hS 9 (by omega)
      have g10 := hS 10 (by omega)
      have g11 := hS 11 (by omega)
      have g12 := hS 12 (by omega)
      have g13 := hS 13 (by omega)
      clear hS
      go_wp2_with fail
      clear g0 g1 g2 g3 g4 g5 g6 g7 g8 g9 g10 g11 g12 g13
      go_loopw [13, 53] (fun v i wr => ∃ k : Nat, k ≤ 14 ∧ i = .int .i64 k ∧ wr.ownsRow w.heap.size 3 1 v (compT r s k).length (cellsI (compT r s k)) ∧ Ext w wr) (fun _ i _ => 14 - (intOf i).toNat)
      case atStart => exact ⟨0, by omega, rfl, World.ownsRow_nil _ _ _ _, hE⟩
      case round =>
        obtain ⟨k, hk, rfl, hown, hEr⟩ := hrel
        by_cases hlt : k < 14
        · have hln := compT_len r s k
          have hix := at14 r s k hlt
          have hbr : w.heap.size ≤ wr.heap.size := hEr.2.2
          cases hp : posB r s k
          · rw [hp] at hix
            have HP := Lib.hid hp
            clear hp
            go_wp2_with fail
            go_roundw
            case rel => exact ⟨k + 1, by omega, by go_num, by rw [compT_no HP.out]; exact hown, hEr⟩
            case measure => simp [intOf]; omega
          · rw [hp] at hix
            have HP := Lib.hid hp
            clear hp
            go_wp2_with (at_builtin; refine wpList_append_own _ rfl _ _ 32 rfl w.heap.size 3 j0 (.int .i64 0) 1 8 Try.underlying32 hj hjz0 hjz1 hjz2 rfl (by decide) _ _ _ rfl (hown.alloc _) ⟨wr.heap.size, 0, none⟩ 1 1 [.int .i64 k] rfl rfl (cell_one_new _ _ _) (by intro u hu; simp at hu; subst hu; rfl) (by unfold maxLen; omega) (by omega) (by simp; omega) ?_; intro v6 w6 hown6 hgrow6 hnil6; have hE6 : Ext w w6 := ext_grownBy (hEr.alloc _ _) hgrow6 (fun kk h => (hown.lt kk h).1); have HO := Lib.hid hown6; clear hown6 hgrow6 hnil6)
            go_roundw
            case rel => exact ⟨k + 1, by omega, by go_num, by rw [compT_yes HP.out, List.length_append, cellsI_append]; exact HO.out, hE6⟩
            case measure => simp [intOf]; omega
        · obtain rfl : k = 14 := by omega
          go_wp2_with fail
          go_ret
          exact ⟨_, rfl, owns_zero hown, hEr⟩
end Go.Proofs.Ythendocboifjnaa
