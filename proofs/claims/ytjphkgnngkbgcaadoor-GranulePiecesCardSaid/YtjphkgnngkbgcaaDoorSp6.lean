/- The walk of the law GranulePieces: it returns true at every input. -/
import Derived.Test.YtjphkgnngkbgcaaDoorSp4
import Derived.Test.YtjphkgnngkbgcaaDoorGl7
namespace Go.Proofs.YtjphkgnngkbgcaaDoor
open Go.ChangeShapes Go.WideShapes Go.ChangeAt Go.RowKit

theorem pcs_at (k s a b : Int) (n i : Nat) (h : i < (pcs k s a b n).length) : (pcs k s a b n)[i].1 = cut k s a b i ∧ (pcs k s a b n)[i].2 = cut k s a b (i + 1) := by simp [pcs]
theorem idx_at (k s n i : Int) (w : World) (hT : Tab w) (hv : Cal.validB k s = true) (h0 : 0 ≤ n) (h1 : n < 1000000) (hi : Cal.idx k s n = i) :
    Calls Tryd.prog 11 #[gv k s, .int .i64 n] w fun e w' => e = .returned (.tuple #[.int .i64 i, .bool true]) ∧ Grown w w' := by
  have := idx_gra_yes k s n w hT hv h0 h1; rwa [hi] at this
/-- the pieces as a reader sees them -/
theorem pcs_shape {w : World} {v : Value} {k s a b : Int} {n : Nat} (ho : w.ownsRow 0 30 2 v (pcs k s a b n).length (cellsL (pcs k s a b n))) :
    ∃ ad cap, v = .slice ad n cap ∧ ∀ (i : Nat), i < n → ∃ g, ad = some ⟨g, 0, none⟩ ∧ w.cell? ⟨g, i * 2, none⟩ = some (.int .i64 (cut k s a b i)) ∧ w.cell? ⟨g, i * 2 + 1, none⟩ = some (.int .i64 (cut k s a b (i + 1))) := by
  obtain ⟨ad, cap, h1, _, h2⟩ := owns_shape ho
  rw [pcs_len] at h1
  refine ⟨ad, cap, h1, fun i hi => ?_⟩
  obtain ⟨g, e, x, y⟩ := h2 i (by rw [pcs_len]; exact hi)
  obtain ⟨p, q⟩ := pcs_at k s a b n i (by rw [pcs_len]; exact hi)
  rw [p] at x; rw [q] at y
  exact ⟨g, e, x, y⟩

set_option maxHeartbeats 8000000 in
theorem pieces_1 (a b f n : Int) (w : World) (hT : Tab w) (a0 : 0 ≤ a) (a1 : a ≤ 255) (b0 : 0 ≤ b) (b1 : b ≤ 255) (f0 : 0 ≤ f) (f1 : f ≤ 65535) (n0 : 0 ≤ n) (n1 : n ≤ 255) (ha : a % 5 = 0) :
    Calls Tryd.prog 7 #[.int .u8 a, .int .u8 b, .int .u16 f, .int .u8 n] w fun e w' => e = .returned (.bool true) ∧ Ext w w' := by
  have hv : Cal.validB 1 0 = true := by rw [Cal.valid_iff]; omega
  have HV := Lib.hid hv
  have HT := Lib.hid ((hT.alloc #[.int .i64 1, .int .i64 0] 23).alloc #[.int .i64 f, .int .i64 (f + 1 + n)] 30)
  obtain ⟨c1, c2, c3⟩ := cnt_facts (a := f) (b := f + 1 + n) hv f0 (by omega) (by omega)
  have bi := idx_bd (n := f) hv f0 (by omega)
  have F0 := Lib.hid ((cut_facts (a := f) (b := f + 1 + n) hv f0 (by omega) (by omega) 0).1 rfl).1
  have FN := Lib.hid ((cut_facts (a := f) (b := f + 1 + n) hv f0 (by omega) (by omega) (cnt 1 0 f (f + 1 + n))).2.2 rfl).1
  have hE0 : Ext w ((w.alloc (.cells #[.int .i64 1, .int .i64 0] 23)).alloc (.cells #[.int .i64 f, .int .i64 (f + 1 + n)] 30)) := ((Ext.refl _).alloc _ _).alloc _ _
  have K0 := Lib.hid (show ((w.alloc (.cells #[.int .i64 1, .int .i64 0] 23)).alloc (.cells #[.int .i64 f, .int .i64 (f + 1 + n)] 30)).cell? ⟨w.heap.size, 0, none⟩ = some (.int .i64 1) from kept ((Grown.refl _).alloc _ _) (al0 _ _ _ _))
  have K1 := Lib.hid (show ((w.alloc (.cells #[.int .i64 1, .int .i64 0] 23)).alloc (.cells #[.int .i64 f, .int .i64 (f + 1 + n)] 30)).cell? ⟨w.heap.size, 1, none⟩ = some (.int .i64 0) from kept ((Grown.refl _).alloc _ _) (al1 _ _ _ _))
  have K2 := Lib.hid (show ((w.alloc (.cells #[.int .i64 1, .int .i64 0] 23)).alloc (.cells #[.int .i64 f, .int .i64 (f + 1 + n)] 30)).cell? ⟨w.heap.size + 1, 0, none⟩ = some (.int .i64 f) by rw [← alsz w (.cells #[.int .i64 1, .int .i64 0] 23)]; exact al0 _ _ _ _)
  have K3 := Lib.hid (show ((w.alloc (.cells #[.int .i64 1, .int .i64 0] 23)).alloc (.cells #[.int .i64 f, .int .i64 (f + 1 + n)] 30)).cell? ⟨w.heap.size + 1, 1, none⟩ = some (.int .i64 (f + 1 + n)) by rw [← alsz w (.cells #[.int .i64 1, .int .i64 0] 23)]; exact al1 _ _ _ _)
  have HC2 := Lib.hid c2
  clear hT hv c2
  go_enter Tryd.func7, Tryd.ntmps7
  go_wp2_with fail
  refine (split_gra_yes _ _ _ _ _ HT.out HV.out f0 (by omega) (by omega)).mono ?_; rintro e w1 ⟨v, rfl, ho, hE1⟩
  obtain ⟨ad, cap, rfl, hx⟩ := pcs_shape ho
  have HX := Lib.hid hx
  have HT1 := Lib.hid (HT.out.ext hE1)
  have k0 := hE1.keeps K0.out
  have k1 := hE1.keeps K1.out
  have k2 := hE1.keeps K2.out
  have k3 := hE1.keeps K3.out
  clear hx ho K0 K1 K2 K3
  go_wp2_with fail
  go_loopw [12, 53] (fun p i wr => ∃ m : Nat, m ≤ cnt 1 0 f (f + 1 + n) ∧ i = .int .i64 m ∧ p = .int .i64 (cut 1 0 f (f + 1 + n) m) ∧ Ext w1 wr) (fun _ i _ => cnt 1 0 f (f + 1 + n) - (intOf i).toNat)
  case atStart => exact ⟨0, by omega, rfl, by rw [F0.out], Ext.refl _⟩
  case round =>
    obtain ⟨m, hm, rfl, rfl, hE⟩ := hrel
    rename_i wr
    have g0 := hE.keeps k0
    have g1 := hE.keeps k1
    have g3 := hE.keeps k3
    have HTr := Lib.hid (HT1.out.ext hE)
    clear k0 k1 k2 k3
    by_cases hlt : m < cnt 1 0 f (f + 1 + n)
    · obtain ⟨m1, m2, m3, m4, m5, m6, m7, m8, m9⟩ := cut_mid (a := f) (b := f + 1 + n) HV.out f0 (by omega) (by omega) m hlt
      obtain ⟨g, rfl, x0, x1⟩ := HX.out m hlt
      have X0 := hE.keeps x0
      have X1 := hE.keeps x1
      have HI := Lib.hid m4
      have HJ := Lib.hid m5
      have hlw : w.heap.size < wr.heap.size := World.block_lt_of_cell? _ _ g0
      have hgw : g < wr.heap.size := World.block_lt_of_cell? _ _ X0
      have hi0 : (0 : Int) ≤ (m : Int) := Int.natCast_nonneg _
      have hi1 : (m : Int) < (cnt 1 0 f (f + 1 + n) : Int) := by omega
      have HTa := Lib.hid (HTr.out.alloc #[.int .i64 (cut 1 0 f (f + 1 + n) m), .int .i64 (cut 1 0 f (f + 1 + n) (m + 1))] 30)
      clear x0 x1 m4 m5 m6 m7 m8 m9
      go_wp2_with fail
      refine (idx_at _ _ _ _ _ HTa.out HV.out (by omega) (by omega) HI.out).mono ?_; rintro e w4 ⟨rfl, hg4⟩
      have q0 := kept hg4 (kept ((Grown.refl _).alloc _ _) g0)
      have q1 := kept hg4 (kept ((Grown.refl _).alloc _ _) g1)
      have y0 := kept hg4 (al0 wr _ _ _)
      have y1 := kept hg4 (al1 wr _ _ _)
      have HTb := Lib.hid (HTa.out.grown hg4)
      go_wp2_with fail
      refine (idx_at _ _ _ _ _ HTb.out HV.out (by omega) (by omega) HJ.out).mono ?_; rintro e w5 ⟨rfl, hg5⟩
      have z0 := kept hg5 y0
      have z1 := kept hg5 y1
      have hE5 : Ext w1 w5 := ((hE.alloc _ _).trans (ext_of_grown hg4)).trans (ext_of_grown hg5)
      clear q0 q1 y0 y1 g0 g1 g3 X0 X1
      go_wp2_with fail
      go_roundw
      case rel => exact ⟨m + 1, by omega, by go_num, rfl, hE5⟩
      case measure => simp [intOf]; omega
    · obtain rfl : m = cnt 1 0 f (f + 1 + n) := by omega
      rw [FN.out]
      go_wp2_with fail
      refine (awake_law _ HTr.out).mono ?_; rintro e w4 ⟨rfl, hg4⟩
      have q3 := kept hg4 g3
      go_wp2_with fail
      go_ret
      exact ⟨ret_bool (by simp), ((hE0.trans hE1).trans hE).trans (ext_of_grown hg4)⟩

set_option maxHeartbeats 8000000 in
theorem pieces_2 (a b f n : Int) (w : World) (hT : Tab w) (a0 : 0 ≤ a) (a1 : a ≤ 255) (b0 : 0 ≤ b) (b1 : b ≤ 255) (f0 : 0 ≤ f) (f1 : f ≤ 65535) (n0 : 0 ≤ n) (n1 : n ≤ 255) (ha : a % 5 = 1) :
    Calls Tryd.prog 7 #[.int .u8 a, .int .u8 b, .int .u16 f, .int .u8 n] w fun e w' => e = .returned (.bool true) ∧ Ext w w' := by
  have hv : Cal.validB 2 0 = true := by rw [Cal.valid_iff]; omega
  have HV := Lib.hid hv
  have HT := Lib.hid ((hT.alloc #[.int .i64 2, .int .i64 0] 23).alloc #[.int .i64 f, .int .i64 (f + 1 + n)] 30)
  obtain ⟨c1, c2, c3⟩ := cnt_facts (a := f) (b := f + 1 + n) hv f0 (by omega) (by omega)
  have bi := idx_bd (n := f) hv f0 (by omega)
  have F0 := Lib.hid ((cut_facts (a := f) (b := f + 1 + n) hv f0 (by omega) (by omega) 0).1 rfl).1
  have FN := Lib.hid ((cut_facts (a := f) (b := f + 1 + n) hv f0 (by omega) (by omega) (cnt 2 0 f (f + 1 + n))).2.2 rfl).1
  have hE0 : Ext w ((w.alloc (.cells #[.int .i64 2, .int .i64 0] 23)).alloc (.cells #[.int .i64 f, .int .i64 (f + 1 + n)] 30)) := ((Ext.refl _).alloc _ _).alloc _ _
  have K0 := Lib.hid (show ((w.alloc (.cells #[.int .i64 2, .int .i64 0] 23)).alloc (.cells #[.int .i64 f, .int .i64 (f + 1 + n)] 30)).cell? ⟨w.heap.size, 0, none⟩ = some (.int .i64 2) from kept ((Grown.refl _).alloc _ _) (al0 _ _ _ _))
  have K1 := Lib.hid (show ((w.alloc (.cells #[.int .i64 2, .int .i64 0] 23)).alloc (.cells #[.int .i64 f, .int .i64 (f + 1 + n)] 30)).cell? ⟨w.heap.size, 1, none⟩ = some (.int .i64 0) from kept ((Grown.refl _).alloc _ _) (al1 _ _ _ _))
  have K2 := Lib.hid (show ((w.alloc (.cells #[.int .i64 2, .int .i64 0] 23)).alloc (.cells #[.int .i64 f, .int .i64 (f + 1 + n)] 30)).cell? ⟨w.heap.size + 1, 0, none⟩ = some (.int .i64 f) by rw [← alsz w (.cells #[.int .i64 2, .int .i64 0] 23)]; exact al0 _ _ _ _)
  have K3 := Lib.hid (show ((w.alloc (.cells #[.int .i64 2, .int .i64 0] 23)).alloc (.cells #[.int .i64 f, .int .i64 (f + 1 + n)] 30)).cell? ⟨w.heap.size + 1, 1, none⟩ = some (.int .i64 (f + 1 + n)) by rw [← alsz w (.cells #[.int .i64 2, .int .i64 0] 23)]; exact al1 _ _ _ _)
  have HC2 := Lib.hid c2
  clear hT hv c2
  go_enter Tryd.func7, Tryd.ntmps7
  go_wp2_with fail
  refine (split_gra_yes _ _ _ _ _ HT.out HV.out f0 (by omega) (by omega)).mono ?_; rintro e w1 ⟨v, rfl, ho, hE1⟩
  obtain ⟨ad, cap, rfl, hx⟩ := pcs_shape ho
  have HX := Lib.hid hx
  have HT1 := Lib.hid (HT.out.ext hE1)
  have k0 := hE1.keeps K0.out
  have k1 := hE1.keeps K1.out
  have k2 := hE1.keeps K2.out
  have k3 := hE1.keeps K3.out
  clear hx ho K0 K1 K2 K3
  go_wp2_with fail
  go_loopw [12, 53] (fun p i wr => ∃ m : Nat, m ≤ cnt 2 0 f (f + 1 + n) ∧ i = .int .i64 m ∧ p = .int .i64 (cut 2 0 f (f + 1 + n) m) ∧ Ext w1 wr) (fun _ i _ => cnt 2 0 f (f + 1 + n) - (intOf i).toNat)
  case atStart => exact ⟨0, by omega, rfl, by rw [F0.out], Ext.refl _⟩
  case round =>
    obtain ⟨m, hm, rfl, rfl, hE⟩ := hrel
    rename_i wr
    have g0 := hE.keeps k0
    have g1 := hE.keeps k1
    have g3 := hE.keeps k3
    have HTr := Lib.hid (HT1.out.ext hE)
    clear k0 k1 k2 k3
    by_cases hlt : m < cnt 2 0 f (f + 1 + n)
    · obtain ⟨m1, m2, m3, m4, m5, m6, m7, m8, m9⟩ := cut_mid (a := f) (b := f + 1 + n) HV.out f0 (by omega) (by omega) m hlt
      obtain ⟨g, rfl, x0, x1⟩ := HX.out m hlt
      have X0 := hE.keeps x0
      have X1 := hE.keeps x1
      have HI := Lib.hid m4
      have HJ := Lib.hid m5
      have hlw : w.heap.size < wr.heap.size := World.block_lt_of_cell? _ _ g0
      have hgw : g < wr.heap.size := World.block_lt_of_cell? _ _ X0
      have hi0 : (0 : Int) ≤ (m : Int) := Int.natCast_nonneg _
      have hi1 : (m : Int) < (cnt 2 0 f (f + 1 + n) : Int) := by omega
      have HTa := Lib.hid (HTr.out.alloc #[.int .i64 (cut 2 0 f (f + 1 + n) m), .int .i64 (cut 2 0 f (f + 1 + n) (m + 1))] 30)
      clear x0 x1 m4 m5 m6 m7 m8 m9
      go_wp2_with fail
      refine (idx_at _ _ _ _ _ HTa.out HV.out (by omega) (by omega) HI.out).mono ?_; rintro e w4 ⟨rfl, hg4⟩
      have q0 := kept hg4 (kept ((Grown.refl _).alloc _ _) g0)
      have q1 := kept hg4 (kept ((Grown.refl _).alloc _ _) g1)
      have y0 := kept hg4 (al0 wr _ _ _)
      have y1 := kept hg4 (al1 wr _ _ _)
      have HTb := Lib.hid (HTa.out.grown hg4)
      go_wp2_with fail
      refine (idx_at _ _ _ _ _ HTb.out HV.out (by omega) (by omega) HJ.out).mono ?_; rintro e w5 ⟨rfl, hg5⟩
      have z0 := kept hg5 y0
      have z1 := kept hg5 y1
      have hE5 : Ext w1 w5 := ((hE.alloc _ _).trans (ext_of_grown hg4)).trans (ext_of_grown hg5)
      clear q0 q1 y0 y1 g0 g1 g3 X0 X1
      go_wp2_with fail
      go_roundw
      case rel => exact ⟨m + 1, by omega, by go_num, rfl, hE5⟩
      case measure => simp [intOf]; omega
    · obtain rfl : m = cnt 2 0 f (f + 1 + n) := by omega
      rw [FN.out]
      go_wp2_with fail
      refine (awake_law _ HTr.out).mono ?_; rintro e w4 ⟨rfl, hg4⟩
      have q3 := kept hg4 g3
      go_wp2_with fail
      go_ret
      exact ⟨ret_bool (by simp), ((hE0.trans hE1).trans hE).trans (ext_of_grown hg4)⟩

set_option maxHeartbeats 8000000 in
theorem pieces_3 (a b f n : Int) (w : World) (hT : Tab w) (a0 : 0 ≤ a) (a1 : a ≤ 255) (b0 : 0 ≤ b) (b1 : b ≤ 255) (f0 : 0 ≤ f) (f1 : f ≤ 65535) (n0 : 0 ≤ n) (n1 : n ≤ 255) (ha : a % 5 = 2) :
    Calls Tryd.prog 7 #[.int .u8 a, .int .u8 b, .int .u16 f, .int .u8 n] w fun e w' => e = .returned (.bool true) ∧ Ext w w' := by
  have hv : Cal.validB 3 (1 + b % 12) = true := by rw [Cal.valid_iff]; omega
  have HV := Lib.hid hv
  have HT := Lib.hid ((hT.alloc #[.int .i64 3, .int .i64 (1 + b % 12)] 23).alloc #[.int .i64 f, .int .i64 (f + 1 + n)] 30)
  obtain ⟨c1, c2, c3⟩ := cnt_facts (a := f) (b := f + 1 + n) hv f0 (by omega) (by omega)
  have bi := idx_bd (n := f) hv f0 (by omega)
  have F0 := Lib.hid ((cut_facts (a := f) (b := f + 1 + n) hv f0 (by omega) (by omega) 0).1 rfl).1
  have FN := Lib.hid ((cut_facts (a := f) (b := f + 1 + n) hv f0 (by omega) (by omega) (cnt 3 (1 + b % 12) f (f + 1 + n))).2.2 rfl).1
  have hE0 : Ext w ((w.alloc (.cells #[.int .i64 3, .int .i64 (1 + b % 12)] 23)).alloc (.cells #[.int .i64 f, .int .i64 (f + 1 + n)] 30)) := ((Ext.refl _).alloc _ _).alloc _ _
  have K0 := Lib.hid (show ((w.alloc (.cells #[.int .i64 3, .int .i64 (1 + b % 12)] 23)).alloc (.cells #[.int .i64 f, .int .i64 (f + 1 + n)] 30)).cell? ⟨w.heap.size, 0, none⟩ = some (.int .i64 3) from kept ((Grown.refl _).alloc _ _) (al0 _ _ _ _))
  have K1 := Lib.hid (show ((w.alloc (.cells #[.int .i64 3, .int .i64 (1 + b % 12)] 23)).alloc (.cells #[.int .i64 f, .int .i64 (f + 1 + n)] 30)).cell? ⟨w.heap.size, 1, none⟩ = some (.int .i64 (1 + b % 12)) from kept ((Grown.refl _).alloc _ _) (al1 _ _ _ _))
  have K2 := Lib.hid (show ((w.alloc (.cells #[.int .i64 3, .int .i64 (1 + b % 12)] 23)).alloc (.cells #[.int .i64 f, .int .i64 (f + 1 + n)] 30)).cell? ⟨w.heap.size + 1, 0, none⟩ = some (.int .i64 f) by rw [← alsz w (.cells #[.int .i64 3, .int .i64 (1 + b % 12)] 23)]; exact al0 _ _ _ _)
  have K3 := Lib.hid (show ((w.alloc (.cells #[.int .i64 3, .int .i64 (1 + b % 12)] 23)).alloc (.cells #[.int .i64 f, .int .i64 (f + 1 + n)] 30)).cell? ⟨w.heap.size + 1, 1, none⟩ = some (.int .i64 (f + 1 + n)) by rw [← alsz w (.cells #[.int .i64 3, .int .i64 (1 + b % 12)] 23)]; exact al1 _ _ _ _)
  have HC2 := Lib.hid c2
  clear hT hv c2
  go_enter Tryd.func7, Tryd.ntmps7
  go_wp2_with fail
  refine (split_gra_yes _ _ _ _ _ HT.out HV.out f0 (by omega) (by omega)).mono ?_; rintro e w1 ⟨v, rfl, ho, hE1⟩
  obtain ⟨ad, cap, rfl, hx⟩ := pcs_shape ho
  have HX := Lib.hid hx
  have HT1 := Lib.hid (HT.out.ext hE1)
  have k0 := hE1.keeps K0.out
  have k1 := hE1.keeps K1.out
  have k2 := hE1.keeps K2.out
  have k3 := hE1.keeps K3.out
  clear hx ho K0 K1 K2 K3
  go_wp2_with fail
  go_loopw [12, 53] (fun p i wr => ∃ m : Nat, m ≤ cnt 3 (1 + b % 12) f (f + 1 + n) ∧ i = .int .i64 m ∧ p = .int .i64 (cut 3 (1 + b % 12) f (f + 1 + n) m) ∧ Ext w1 wr) (fun _ i _ => cnt 3 (1 + b % 12) f (f + 1 + n) - (intOf i).toNat)
  case atStart => exact ⟨0, by omega, rfl, by rw [F0.out], Ext.refl _⟩
  case round =>
    obtain ⟨m, hm, rfl, rfl, hE⟩ := hrel
    rename_i wr
    have g0 := hE.keeps k0
    have g1 := hE.keeps k1
    have g3 := hE.keeps k3
    have HTr := Lib.hid (HT1.out.ext hE)
    clear k0 k1 k2 k3
    by_cases hlt : m < cnt 3 (1 + b % 12) f (f + 1 + n)
    · obtain ⟨m1, m2, m3, m4, m5, m6, m7, m8, m9⟩ := cut_mid (a := f) (b := f + 1 + n) HV.out f0 (by omega) (by omega) m hlt
      obtain ⟨g, rfl, x0, x1⟩ := HX.out m hlt
      have X0 := hE.keeps x0
      have X1 := hE.keeps x1
      have HI := Lib.hid m4
      have HJ := Lib.hid m5
      have hlw : w.heap.size < wr.heap.size := World.block_lt_of_cell? _ _ g0
      have hgw : g < wr.heap.size := World.block_lt_of_cell? _ _ X0
      have hi0 : (0 : Int) ≤ (m : Int) := Int.natCast_nonneg _
      have hi1 : (m : Int) < (cnt 3 (1 + b % 12) f (f + 1 + n) : Int) := by omega
      have HTa := Lib.hid (HTr.out.alloc #[.int .i64 (cut 3 (1 + b % 12) f (f + 1 + n) m), .int .i64 (cut 3 (1 + b % 12) f (f + 1 + n) (m + 1))] 30)
      clear x0 x1 m4 m5 m6 m7 m8 m9
      go_wp2_with fail
      refine (idx_at _ _ _ _ _ HTa.out HV.out (by omega) (by omega) HI.out).mono ?_; rintro e w4 ⟨rfl, hg4⟩
      have q0 := kept hg4 (kept ((Grown.refl _).alloc _ _) g0)
      have q1 := kept hg4 (kept ((Grown.refl _).alloc _ _) g1)
      have y0 := kept hg4 (al0 wr _ _ _)
      have y1 := kept hg4 (al1 wr _ _ _)
      have HTb := Lib.hid (HTa.out.grown hg4)
      go_wp2_with fail
      refine (idx_at _ _ _ _ _ HTb.out HV.out (by omega) (by omega) HJ.out).mono ?_; rintro e w5 ⟨rfl, hg5⟩
      have z0 := kept hg5 y0
      have z1 := kept hg5 y1
      have hE5 : Ext w1 w5 := ((hE.alloc _ _).trans (ext_of_grown hg4)).trans (ext_of_grown hg5)
      clear q0 q1 y0 y1 g0 g1 g3 X0 X1
      go_wp2_with fail
      go_roundw
      case rel => exact ⟨m + 1, by omega, by go_num, rfl, hE5⟩
      case measure => simp [intOf]; omega
    · obtain rfl : m = cnt 3 (1 + b % 12) f (f + 1 + n) := by omega
      rw [FN.out]
      go_wp2_with fail
      refine (awake_law _ HTr.out).mono ?_; rintro e w4 ⟨rfl, hg4⟩
      have q3 := kept hg4 g3
      go_wp2_with fail
      go_ret
      exact ⟨ret_bool (by simp), ((hE0.trans hE1).trans hE).trans (ext_of_grown hg4)⟩

set_option maxHeartbeats 8000000 in
theorem pieces_4 (a b f n : Int) (w : World) (hT : Tab w) (a0 : 0 ≤ a) (a1 : a ≤ 255) (b0 : 0 ≤ b) (b1 : b ≤ 255) (f0 : 0 ≤ f) (f1 : f ≤ 65535) (n0 : 0 ≤ n) (n1 : n ≤ 255) (ha : a % 5 = 3) :
    Calls Tryd.prog 7 #[.int .u8 a, .int .u8 b, .int .u16 f, .int .u8 n] w fun e w' => e = .returned (.bool true) ∧ Ext w w' := by
  have hv : Cal.validB 4 (1 + b % 12) = true := by rw [Cal.valid_iff]; omega
  have HV := Lib.hid hv
  have HT := Lib.hid ((hT.alloc #[.int .i64 4, .int .i64 (1 + b % 12)] 23).alloc #[.int .i64 f, .int .i64 (f + 1 + n)] 30)
  obtain ⟨c1, c2, c3⟩ := cnt_facts (a := f) (b := f + 1 + n) hv f0 (by omega) (by omega)
  have bi := idx_bd (n := f) hv f0 (by omega)
  have F0 := Lib.hid ((cut_facts (a := f) (b := f + 1 + n) hv f0 (by omega) (by omega) 0).1 rfl).1
  have FN := Lib.hid ((cut_facts (a := f) (b := f + 1 + n) hv f0 (by omega) (by omega) (cnt 4 (1 + b % 12) f (f + 1 + n))).2.2 rfl).1
  have hE0 : Ext w ((w.alloc (.cells #[.int .i64 4, .int .i64 (1 + b % 12)] 23)).alloc (.cells #[.int .i64 f, .int .i64 (f + 1 + n)] 30)) := ((Ext.refl _).alloc _ _).alloc _ _
  have K0 := Lib.hid (show ((w.alloc (.cells #[.int .i64 4, .int .i64 (1 + b % 12)] 23)).alloc (.cells #[.int .i64 f, .int .i64 (f + 1 + n)] 30)).cell? ⟨w.heap.size, 0, none⟩ = some (.int .i64 4) from kept ((Grown.refl _).alloc _ _) (al0 _ _ _ _))
  have K1 := Lib.hid (show ((w.alloc (.cells #[.int .i64 4, .int .i64 (1 + b % 12)] 23)).alloc (.cells #[.int .i64 f, .int .i64 (f + 1 + n)] 30)).cell? ⟨w.heap.size, 1, none⟩ = some (.int .i64 (1 + b % 12)) from kept ((Grown.refl _).alloc _ _) (al1 _ _ _ _))
  have K2 := Lib.hid (show ((w.alloc (.cells #[.int .i64 4, .int .i64 (1 + b % 12)] 23)).alloc (.cells #[.int .i64 f, .int .i64 (f + 1 + n)] 30)).cell? ⟨w.heap.size + 1, 0, none⟩ = some (.int .i64 f) by rw [← alsz w (.cells #[.int .i64 4, .int .i64 (1 + b % 12)] 23)]; exact al0 _ _ _ _)
  have K3 := Lib.hid (show ((w.alloc (.cells #[.int .i64 4, .int .i64 (1 + b % 12)] 23)).alloc (.cells #[.int .i64 f, .int .i64 (f + 1 + n)] 30)).cell? ⟨w.heap.size + 1, 1, none⟩ = some (.int .i64 (f + 1 + n)) by rw [← alsz w (.cells #[.int .i64 4, .int .i64 (1 + b % 12)] 23)]; exact al1 _ _ _ _)
  have HC2 := Lib.hid c2
  clear hT hv c2
  go_enter Tryd.func7, Tryd.ntmps7
  go_wp2_with fail
  refine (split_gra_yes _ _ _ _ _ HT.out HV.out f0 (by omega) (by omega)).mono ?_; rintro e w1 ⟨v, rfl, ho, hE1⟩
  obtain ⟨ad, cap, rfl, hx⟩ := pcs_shape ho
  have HX := Lib.hid hx
  have HT1 := Lib.hid (HT.out.ext hE1)
  have k0 := hE1.keeps K0.out
  have k1 := hE1.keeps K1.out
  have k2 := hE1.keeps K2.out
  have k3 := hE1.keeps K3.out
  clear hx ho K0 K1 K2 K3
  go_wp2_with fail
  go_loopw [12, 53] (fun p i wr => ∃ m : Nat, m ≤ cnt 4 (1 + b % 12) f (f + 1 + n) ∧ i = .int .i64 m ∧ p = .int .i64 (cut 4 (1 + b % 12) f (f + 1 + n) m) ∧ Ext w1 wr) (fun _ i _ => cnt 4 (1 + b % 12) f (f + 1 + n) - (intOf i).toNat)
  case atStart => exact ⟨0, by omega, rfl, by rw [F0.out], Ext.refl _⟩
  case round =>
    obtain ⟨m, hm, rfl, rfl, hE⟩ := hrel
    rename_i wr
    have g0 := hE.keeps k0
    have g1 := hE.keeps k1
    have g3 := hE.keeps k3
    have HTr := Lib.hid (HT1.out.ext hE)
    clear k0 k1 k2 k3
    by_cases hlt : m < cnt 4 (1 + b % 12) f (f + 1 + n)
    · obtain ⟨m1, m2, m3, m4, m5, m6, m7, m8, m9⟩ := cut_mid (a := f) (b := f + 1 + n) HV.out f0 (by omega) (by omega) m hlt
      obtain ⟨g, rfl, x0, x1⟩ := HX.out m hlt
      have X0 := hE.keeps x0
      have X1 := hE.keeps x1
      have HI := Lib.hid m4
      have HJ := Lib.hid m5
      have hlw : w.heap.size < wr.heap.size := World.block_lt_of_cell? _ _ g0
      have hgw : g < wr.heap.size := World.block_lt_of_cell? _ _ X0
      have hi0 : (0 : Int) ≤ (m : Int) := Int.natCast_nonneg _
      have hi1 : (m : Int) < (cnt 4 (1 + b % 12) f (f + 1 + n) : Int) := by omega
      have HTa := Lib.hid (HTr.out.alloc #[.int .i64 (cut 4 (1 + b % 12) f (f + 1 + n) m), .int .i64 (cut 4 (1 + b % 12) f (f + 1 + n) (m + 1))] 30)
      clear x0 x1 m4 m5 m6 m7 m8 m9
      go_wp2_with fail
      refine (idx_at _ _ _ _ _ HTa.out HV.out (by omega) (by omega) HI.out).mono ?_; rintro e w4 ⟨rfl, hg4⟩
      have q0 := kept hg4 (kept ((Grown.refl _).alloc _ _) g0)
      have q1 := kept hg4 (kept ((Grown.refl _).alloc _ _) g1)
      have y0 := kept hg4 (al0 wr _ _ _)
      have y1 := kept hg4 (al1 wr _ _ _)
      have HTb := Lib.hid (HTa.out.grown hg4)
      go_wp2_with fail
      refine (idx_at _ _ _ _ _ HTb.out HV.out (by omega) (by omega) HJ.out).mono ?_; rintro e w5 ⟨rfl, hg5⟩
      have z0 := kept hg5 y0
      have z1 := kept hg5 y1
      have hE5 : Ext w1 w5 := ((hE.alloc _ _).trans (ext_of_grown hg4)).trans (ext_of_grown hg5)
      clear q0 q1 y0 y1 g0 g1 g3 X0 X1
      go_wp2_with fail
      go_roundw
      case rel => exact ⟨m + 1, by omega, by go_num, rfl, hE5⟩
      case measure => simp [intOf]; omega
    · obtain rfl : m = cnt 4 (1 + b % 12) f (f + 1 + n) := by omega
      rw [FN.out]
      go_wp2_with fail
      refine (awake_law _ HTr.out).mono ?_; rintro e w4 ⟨rfl, hg4⟩
      have q3 := kept hg4 g3
      go_wp2_with fail
      go_ret
      exact ⟨ret_bool (by simp), ((hE0.trans hE1).trans hE).trans (ext_of_grown hg4)⟩

set_option maxHeartbeats 8000000 in
theorem pieces_5 (a b f n : Int) (w : World) (hT : Tab w) (a0 : 0 ≤ a) (a1 : a ≤ 255) (b0 : 0 ≤ b) (b1 : b ≤ 255) (f0 : 0 ≤ f) (f1 : f ≤ 65535) (n0 : 0 ≤ n) (n1 : n ≤ 255) (ha : a % 5 = 4) :
    Calls Tryd.prog 7 #[.int .u8 a, .int .u8 b, .int .u16 f, .int .u8 n] w fun e w' => e = .returned (.bool true) ∧ Ext w w' := by
  have hv : Cal.validB 5 (1 + b % 12) = true := by rw [Cal.valid_iff]; omega
  have HV := Lib.hid hv
  have HT := Lib.hid ((hT.alloc #[.int .i64 5, .int .i64 (1 + b % 12)] 23).alloc #[.int .i64 f, .int .i64 (f + 1 + n)] 30)
  obtain ⟨c1, c2, c3⟩ := cnt_facts (a := f) (b := f + 1 + n) hv f0 (by omega) (by omega)
  have bi := idx_bd (n := f) hv f0 (by omega)
  have F0 := Lib.hid ((cut_facts (a := f) (b := f + 1 + n) hv f0 (by omega) (by omega) 0).1 rfl).1
  have FN := Lib.hid ((cut_facts (a := f) (b := f + 1 + n) hv f0 (by omega) (by omega) (cnt 5 (1 + b % 12) f (f + 1 + n))).2.2 rfl).1
  have hE0 : Ext w ((w.alloc (.cells #[.int .i64 5, .int .i64 (1 + b % 12)] 23)).alloc (.cells #[.int .i64 f, .int .i64 (f + 1 + n)] 30)) := ((Ext.refl _).alloc _ _).alloc _ _
  have K0 := Lib.hid (show ((w.alloc (.cells #[.int .i64 5, .int .i64 (1 + b % 12)] 23)).alloc (.cells #[.int .i64 f, .int .i64 (f + 1 + n)] 30)).cell? ⟨w.heap.size, 0, none⟩ = some (.int .i64 5) from kept ((Grown.refl _).alloc _ _) (al0 _ _ _ _))
  have K1 := Lib.hid (show ((w.alloc (.cells #[.int .i64 5, .int .i64 (1 + b % 12)] 23)).alloc (.cells #[.int .i64 f, .int .i64 (f + 1 + n)] 30)).cell? ⟨w.heap.size, 1, none⟩ = some (.int .i64 (1 + b % 12)) from kept ((Grown.refl _).alloc _ _) (al1 _ _ _ _))
  have K2 := Lib.hid (show ((w.alloc (.cells #[.int .i64 5, .int .i64 (1 + b % 12)] 23)).alloc (.cells #[.int .i64 f, .int .i64 (f + 1 + n)] 30)).cell? ⟨w.heap.size + 1, 0, none⟩ = some (.int .i64 f) by rw [← alsz w (.cells #[.int .i64 5, .int .i64 (1 + b % 12)] 23)]; exact al0 _ _ _ _)
  have K3 := Lib.hid (show ((w.alloc (.cells #[.int .i64 5, .int .i64 (1 + b % 12)] 23)).alloc (.cells #[.int .i64 f, .int .i64 (f + 1 + n)] 30)).cell? ⟨w.heap.size + 1, 1, none⟩ = some (.int .i64 (f + 1 + n)) by rw [← alsz w (.cells #[.int .i64 5, .int .i64 (1 + b % 12)] 23)]; exact al1 _ _ _ _)
  have HC2 := Lib.hid c2
  clear hT hv c2
  go_enter Tryd.func7, Tryd.ntmps7
  go_wp2_with fail
  refine (split_gra_yes _ _ _ _ _ HT.out HV.out f0 (by omega) (by omega)).mono ?_; rintro e w1 ⟨v, rfl, ho, hE1⟩
  obtain ⟨ad, cap, rfl, hx⟩ := pcs_shape ho
  have HX := Lib.hid hx
  have HT1 := Lib.hid (HT.out.ext hE1)
  have k0 := hE1.keeps K0.out
  have k1 := hE1.keeps K1.out
  have k2 := hE1.keeps K2.out
  have k3 := hE1.keeps K3.out
  clear hx ho K0 K1 K2 K3
  go_wp2_with fail
  go_loopw [12, 53] (fun p i wr => ∃ m : Nat, m ≤ cnt 5 (1 + b % 12) f (f + 1 + n) ∧ i = .int .i64 m ∧ p = .int .i64 (cut 5 (1 + b % 12) f (f + 1 + n) m) ∧ Ext w1 wr) (fun _ i _ => cnt 5 (1 + b % 12) f (f + 1 + n) - (intOf i).toNat)
  case atStart => exact ⟨0, by omega, rfl, by rw [F0.out], Ext.refl _⟩
  case round =>
    obtain ⟨m, hm, rfl, rfl, hE⟩ := hrel
    rename_i wr
    have g0 := hE.keeps k0
    have g1 := hE.keeps k1
    have g3 := hE.keeps k3
    have HTr := Lib.hid (HT1.out.ext hE)
    clear k0 k1 k2 k3
    by_cases hlt : m < cnt 5 (1 + b % 12) f (f + 1 + n)
    · obtain ⟨m1, m2, m3, m4, m5, m6, m7, m8, m9⟩ := cut_mid (a := f) (b := f + 1 + n) HV.out f0 (by omega) (by omega) m hlt
      obtain ⟨g, rfl, x0, x1⟩ := HX.out m hlt
      have X0 := hE.keeps x0
      have X1 := hE.keeps x1
      have HI := Lib.hid m4
      have HJ := Lib.hid m5
      have hlw : w.heap.size < wr.heap.size := World.block_lt_of_cell? _ _ g0
      have hgw : g < wr.heap.size := World.block_lt_of_cell? _ _ X0
      have hi0 : (0 : Int) ≤ (m : Int) := Int.natCast_nonneg _
      have hi1 : (m : Int) < (cnt 5 (1 + b % 12) f (f + 1 + n) : Int) := by omega
      have HTa := Lib.hid (HTr.out.alloc #[.int .i64 (cut 5 (1 + b % 12) f (f + 1 + n) m), .int .i64 (cut 5 (1 + b % 12) f (f + 1 + n) (m + 1))] 30)
      clear x0 x1 m4 m5 m6 m7 m8 m9
      go_wp2_with fail
      refine (idx_at _ _ _ _ _ HTa.out HV.out (by omega) (by omega) HI.out).mono ?_; rintro e w4 ⟨rfl, hg4⟩
      have q0 := kept hg4 (kept ((Grown.refl _).alloc _ _) g0)
      have q1 := kept hg4 (kept ((Grown.refl _).alloc _ _) g1)
      have y0 := kept hg4 (al0 wr _ _ _)
      have y1 := kept hg4 (al1 wr _ _ _)
      have HTb := Lib.hid (HTa.out.grown hg4)
      go_wp2_with fail
      refine (idx_at _ _ _ _ _ HTb.out HV.out (by omega) (by omega) HJ.out).mono ?_; rintro e w5 ⟨rfl, hg5⟩
      have z0 := kept hg5 y0
      have z1 := kept hg5 y1
      have hE5 : Ext w1 w5 := ((hE.alloc _ _).trans (ext_of_grown hg4)).trans (ext_of_grown hg5)
      clear q0 q1 y0 y1 g0 g1 g3 X0 X1
      go_wp2_with fail
      go_roundw
      case rel => exact ⟨m + 1, by omega, by go_num, rfl, hE5⟩
      case measure => simp [intOf]; omega
    · obtain rfl : m = cnt 5 (1 + b % 12) f (f + 1 + n) := by omega
      rw [FN.out]
      go_wp2_with fail
      refine (awake_law _ HTr.out).mono ?_; rintro e w4 ⟨rfl, hg4⟩
      have q3 := kept hg4 g3
      go_wp2_with fail
      go_ret
      exact ⟨ret_bool (by simp), ((hE0.trans hE1).trans hE).trans (ext_of_grown hg4)⟩

theorem law_GranulePieces (a b f n : Int) (w : World) (hT : Tab w) (a0 : 0 ≤ a) (a1 : a ≤ 255) (b0 : 0 ≤ b) (b1 : b ≤ 255) (f0 : 0 ≤ f) (f1 : f ≤ 65535) (n0 : 0 ≤ n) (n1 : n ≤ 255) :
    Calls Tryd.prog 7 #[.int .u8 a, .int .u8 b, .int .u16 f, .int .u8 n] w fun e w' => e = .returned (.bool true) ∧ Ext w w' := by
  have h : a % 5 = 0 ∨ a % 5 = 1 ∨ a % 5 = 2 ∨ a % 5 = 3 ∨ a % 5 = 4 := by omega
  rcases h with h | h | h | h | h
  · exact pieces_1 a b f n w hT a0 a1 b0 b1 f0 f1 n0 n1 h
  · exact pieces_2 a b f n w hT a0 a1 b0 b1 f0 f1 n0 n1 h
  · exact pieces_3 a b f n w hT a0 a1 b0 b1 f0 f1 n0 n1 h
  · exact pieces_4 a b f n w hT a0 a1 b0 b1 f0 f1 n0 n1 h
  · exact pieces_5 a b f n w hT a0 a1 b0 b1 f0 f1 n0 n1 h
end Go.Proofs.YtjphkgnngkbgcaaDoor
