/- The contract of the reference's SplitPeriod. -/
import Derived.Test.YtjphkgnngkbgcaaDoorSp2
namespace Go.Proofs.YtjphkgnngkbgcaaDoor
open Go.ChangeShapes Go.WideShapes Go.ChangeAt Go.RowKit

def okV (a b : Int) : Bool := decide (0 ≤ a ∧ a < b ∧ b ≤ 1099511627776)
def okD (a b : Int) : Bool := decide (0 ≤ a ∧ a < b ∧ b ≤ 1000000)
set_option maxHeartbeats 1000000 in
theorem vp_ref (a b : Int) (w : World) : Calls Tryd.prog 43 #[pv a b] w fun e w' => e = .returned (.bool (okV a b)) ∧ Grown w w' := by
  go_enter Tryd.func43, Tryd.ntmps43
  go_wp2
  all_goals
    go_ret
    exact ⟨ret_bool (by rw [Bool.eq_iff_iff]; simp [okV, *] <;> omega), (Grown.refl _).alloc _ _⟩
theorem vp_yes (a b : Int) (w : World) (h : okV a b = true) : Calls Tryd.prog 43 #[pv a b] w fun e w' => e = .returned (.bool true) ∧ Grown w w' := by
  have := vp_ref a b w; rwa [h] at this
theorem vp_no (a b : Int) (w : World) (h : okV a b = false) : Calls Tryd.prog 43 #[pv a b] w fun e w' => e = .returned (.bool false) ∧ Grown w w' := by
  have := vp_ref a b w; rwa [h] at this
set_option maxHeartbeats 1000000 in
theorem vd_ref (a b : Int) (w : World) : Calls Tryd.prog 31 #[pv a b] w fun e w' => e = .returned (.bool (okD a b)) ∧ Grown w w' := by
  cases h : okV a b
  · have HV := Lib.hid h
    have HD := Lib.hid (show okD a b = false by simp [okV] at h; simp [okD]; omega)
    clear h
    go_enter Tryd.func31, Tryd.ntmps31
    go_wp2_with fail
    refine (vp_no _ _ _ HV.out).mono ?_; rintro e w1 ⟨rfl, hg⟩
    go_wp2_with fail
    go_ret
    exact ⟨ret_bool HD.out.symm, grown_trans ((Grown.refl _).alloc _ _) hg⟩
  · have HV := Lib.hid h
    have HD := Lib.hid (show okD a b = decide (b ≤ 1000000) by rw [Bool.eq_iff_iff]; simp [okV] at h; simp [okD]; omega)
    clear h
    go_enter Tryd.func31, Tryd.ntmps31
    go_wp2_with fail
    refine (vp_yes _ _ _ HV.out).mono ?_; rintro e w1 ⟨rfl, hg⟩
    obtain ⟨hc, hf⟩ := gcell hg
    go_wp2_with fail
    go_ret
    exact ⟨ret_bool (by rw [HD.out]), grown_trans ((Grown.refl _).alloc _ _) hg⟩
theorem vd_yes (a b : Int) (w : World) (h : okD a b = true) : Calls Tryd.prog 31 #[pv a b] w fun e w' => e = .returned (.bool true) ∧ Grown w w' := by
  have := vd_ref a b w; rwa [h] at this
theorem vd_no (a b : Int) (w : World) (h : okD a b = false) : Calls Tryd.prog 31 #[pv a b] w fun e w' => e = .returned (.bool false) ∧ Grown w w' := by
  have := vd_ref a b w; rwa [h] at this

/-- a granule by its bounds, the reference's -/
theorem span_ref_at (k s i a b : Int) (w : World) (hv : Cal.validB k s = true) (h0 : 0 ≤ i) (ha : Cal.fst k s i = a) (hb : Cal.fst k s (i + 1) = b) (hl : a < 1000000) :
    Calls Tryd.prog 17 #[gv k s, .int .i64 i] w fun e w' => e = .returned (.tuple #[pv a b, .bool true]) ∧ Grown w w' := by
  have h : spB k s i = true := by simp [spB, hv, h0, ha, hl]
  have := span_ref_yes k s i w h
  obtain ⟨_, _, _, _, f, t⟩ := sp_yes h
  rwa [f, t, ha, hb] at this
theorem idx_ref_at (k s n i : Int) (w : World) (hv : Cal.validB k s = true) (h0 : 0 ≤ n) (h1 : n < 1000000) (hi : Cal.idx k s n = i) :
    Calls Tryd.prog 12 #[gv k s, .int .i64 n] w fun e w' => e = .returned (.tuple #[.int .i64 i, .bool true]) ∧ Grown w w' := by
  have := idx_ref_yes k s n w hv h0 h1; rwa [hi] at this

def lenOf : Value → Nat | .slice _ n _ => n | _ => 0
theorem owns_len {w : World} {base : Nat} {e : TypeId} {size : Nat} {v : Value} {n : Nat} {xs : List Value} (ho : w.ownsRow base e size v n xs) : lenOf v = n := by
  rcases ho.2 with ⟨rfl, rfl⟩ | ⟨g, cap, cur, rfl, _⟩ <;> rfl

theorem split_ok {k s a b : Int} : okP k s a b = (Cal.validB k s && okD a b) := by
  rw [Bool.eq_iff_iff, okP_iff]; simp [okD]

set_option maxHeartbeats 2000000 in
theorem split_ref_no (k s a b : Int) (w : World) (h : okP k s a b = false) :
    Calls Tryd.prog 21 #[gv k s, pv a b] w (SplitPost [] w) := by
  rw [split_ok] at h
  cases hv : Cal.validB k s
  · have HV := Lib.hid hv
    clear hv h
    go_enter Tryd.func21, Tryd.ntmps21
    go_wp2_with fail
    refine (valid_ref_no _ _ _ HV.out).mono ?_; rintro e w1 ⟨rfl, hg⟩
    go_wp2_with fail
    go_ret
    exact ⟨_, rfl, World.ownsRow_nil _ _ _ _, (((Ext.refl _).alloc _ _).alloc _ _).trans (ext_of_grown hg)⟩
  · have HV := Lib.hid hv
    have HD := Lib.hid (show okD a b = false by rw [hv] at h; simpa using h)
    clear hv h
    go_enter Tryd.func21, Tryd.ntmps21
    go_wp2_with fail
    refine (valid_ref_yes _ _ _ HV.out).mono ?_; rintro e w1 ⟨rfl, hg⟩
    obtain ⟨hc, hf⟩ := gcell hg
    obtain ⟨hz', hz⟩ : w.heap.size < w1.heap.size ∧ w.heap.size + 1 < w1.heap.size := by have := hg.2.2; simp at this; omega
    go_wp2_with fail
    refine (vd_no _ _ _ HD.out).mono ?_; rintro e w2 ⟨rfl, hg2⟩
    go_wp2_with fail
    go_ret
    exact ⟨_, rfl, World.ownsRow_nil _ _ _ _, ((((Ext.refl _).alloc _ _).alloc _ _).trans (ext_of_grown hg)).trans (ext_of_grown hg2)⟩

theorem Ext.setNew {w X : World} (h : Ext w X) (b o : Nat) (hb : w.heap.size ≤ b) (v : Value) : Ext w (X.setCell ⟨b, o, none⟩ v) := by
  have hk : ∀ i, i < w.heap.size → (X.setCell ⟨b, o, none⟩ v).heap[i]? = X.heap[i]? := fun i hi => Below.heap_setCell _ _ _ _ (by show i ≠ b; omega)
  refine ⟨⟨h.1.1, h.1.2.1, fun i hi => ?_⟩, fun a ha => (World.frozen?_of_block (hk _ ha)).trans (h.2.1 a ha), by simpa [World.setCell] using h.2.2⟩
  rw [hk i hi]
  exact h.1.2.2 i hi

theorem grow_cell {X Y : World} {row : Option Nat} (hg : X.grownBy Y row) {b o : Nat} {v : Value} (h : X.cell? ⟨b, o, none⟩ = some v) (hne : ∀ k, row = some k → k ≠ b) : Y.cell? ⟨b, o, none⟩ = some v := by
  rw [World.cell?_of_block (hg.block b (World.block_lt_of_cell? _ _ h) (fun e => hne b e.symm rfl))]; exact h
theorem grow_frozen {X Y : World} {row : Option Nat} (hg : X.grownBy Y row) {b o : Nat} (hb : b < X.heap.size) (h : X.frozen? ⟨b, o, none⟩ = false) (hne : ∀ k, row = some k → k ≠ b) : Y.frozen? ⟨b, o, none⟩ = false := by
  rw [World.frozen?_of_block (hg.block b hb (fun e => hne b e.symm rfl))]; exact h
theorem al2_frozen (w : World) (c d : Array Value) (t u : TypeId) (a : Addr) : ((w.alloc (.cells c t)).alloc (.cells d u)).frozen? a = w.frozen? a := by
  rw [frozen?_alloc_cells, frozen?_alloc_cells]
theorem al2_grown (w : World) (c d : Array Value) (t u : TypeId) : Grown w ((w.alloc (.cells c t)).alloc (.cells d u)) := ((Grown.refl _).alloc _ _).alloc _ _
/-- what stands behind the append: the boxes of the arguments, and that they are no row of the call's own -/
theorem behind {w w5 X w6 : World} {row : Option Nat} {B : Nat} {k s a b : Value} (hX : Grown w5 X) (hg : X.grownBy w6 row) (hr : ∀ kk, row = some kk → B + 2 ≤ kk)
    (p0 : w5.cell? ⟨B, 0, none⟩ = some k) (p1 : w5.cell? ⟨B, 1, none⟩ = some s) (p2 : w5.cell? ⟨B + 1, 0, none⟩ = some a) (p3 : w5.cell? ⟨B + 1, 1, none⟩ = some b) (pf : w5.frozen? ⟨B + 1, 0, none⟩ = false) (hE : Ext w w5) (hB : w.heap.size = B) :
    w6.cell? ⟨B, 0, none⟩ = some k ∧ w6.cell? ⟨B, 1, none⟩ = some s ∧ w6.cell? ⟨B + 1, 0, none⟩ = some a ∧ w6.cell? ⟨B + 1, 1, none⟩ = some b ∧ w6.frozen? ⟨B + 1, 0, none⟩ = false ∧ Ext w w6 ∧ w5.heap.size ≤ w6.heap.size := by
  have n0 : ∀ kk, row = some kk → kk ≠ B := fun kk h => by have := hr kk h; omega
  have n1 : ∀ kk, row = some kk → kk ≠ B + 1 := fun kk h => by have := hr kk h; omega
  have hs := World.block_lt_of_cell? _ _ (kept hX p2)
  exact ⟨grow_cell hg (kept hX p0) n0, grow_cell hg (kept hX p1) n0, grow_cell hg (kept hX p2) n1, grow_cell hg (kept hX p3) n1, grow_frozen hg hs (by rw [hX.2.1]; exact pf) n1,
    ext_grownBy (hE.trans (ext_of_grown hX)) hg (fun kk h => by have := hr kk h; omega), Nat.le_trans hX.2.2 hg.size⟩

set_option maxHeartbeats 8000000 in
theorem split_ref_yes (k s a b : Int) (w : World) (hv : Cal.validB k s = true) (h0 : 0 ≤ a) (h1 : a < b) (h2 : b ≤ 1000000) :
    Calls Tryd.prog 21 #[gv k s, pv a b] w (SplitPost (pcs k s a b (cnt k s a b)) w) := by
  obtain ⟨i0, hi, hz0, hz1, hz2⟩ := info_parts infoP
  have HV := Lib.hid hv
  have HD := Lib.hid (show okD a b = true by simp [okD]; omega)
  obtain ⟨c1, c2, c3⟩ := cnt_facts hv h0 h1 h2
  have b0 := idx_bd hv h0 (by omega)
  have F0 := Lib.hid ((cut_facts hv h0 h1 h2 0).1 rfl).1
  have FN := Lib.hid ((cut_facts hv h0 h1 h2 (cnt k s a b)).2.2 rfl).1
  have HC := Lib.hid c2
  clear hv c2
  go_enter Tryd.func21, Tryd.ntmps21
  go_wp2_with fail
  refine (valid_ref_yes _ _ _ HV.out).mono ?_; rintro e w1 ⟨rfl, hg⟩
  obtain ⟨hc, hf⟩ := gcell hg
  obtain ⟨hz', hz⟩ : w.heap.size < w1.heap.size ∧ w.heap.size + 1 < w1.heap.size := by have := hg.2.2; simp at this; omega
  go_wp2_with fail
  refine (vd_yes _ _ _ HD.out).mono ?_; rintro e w2 ⟨rfl, hg2⟩
  obtain ⟨hy', hy⟩ : w.heap.size < w2.heap.size ∧ w.heap.size + 1 < w2.heap.size := by have := hg2.2.2; omega
  have hE2 : Ext w w2 := (((Ext.refl _).alloc _ _).alloc _ _).trans ((ext_of_grown hg).trans (ext_of_grown hg2))
  have k0 : w2.cell? ⟨w.heap.size, 0, none⟩ = some (.int .i64 k) := kept hg2 (kept hg (kept ((Grown.refl _).alloc _ _) (al0 _ _ _ _)))
  have k1 : w2.cell? ⟨w.heap.size, 1, none⟩ = some (.int .i64 s) := kept hg2 (kept hg (kept ((Grown.refl _).alloc _ _) (al1 _ _ _ _)))
  have k2 : w2.cell? ⟨w.heap.size + 1, 0, none⟩ = some (.int .i64 a) := by rw [← alsz w (.cells #[.int .i64 k, .int .i64 s] 23)]; exact kept hg2 (kept hg (al0 _ _ _ _))
  have k3 : w2.cell? ⟨w.heap.size + 1, 1, none⟩ = some (.int .i64 b) := by rw [← alsz w (.cells #[.int .i64 k, .int .i64 s] 23)]; exact kept hg2 (kept hg (al1 _ _ _ _))
  have kf : w2.frozen? ⟨w.heap.size + 1, 0, none⟩ = false := by rw [hg2.2.1, hg.2.1, frozen?_alloc_cells, frozen?_alloc_cells]; exact frozen_new _ _ _ (by omega)
  clear hc hf hg hg2
  go_wp2_with fail
  go_loopw [5] (fun v wr => ∃ m : Nat, m ≤ cnt k s a b ∧ wr.ownsRow (w.heap.size + 2) 30 2 v m (cellsL (pcs k s a b m)) ∧ wr.cell? ⟨w.heap.size, 0, none⟩ = some (.int .i64 k) ∧ wr.cell? ⟨w.heap.size, 1, none⟩ = some (.int .i64 s) ∧ wr.cell? ⟨w.heap.size + 1, 0, none⟩ = some (.int .i64 (cut k s a b m)) ∧ wr.cell? ⟨w.heap.size + 1, 1, none⟩ = some (.int .i64 b) ∧ wr.frozen? ⟨w.heap.size + 1, 0, none⟩ = false ∧ w.heap.size + 2 ≤ wr.heap.size ∧ Ext w wr) (fun v _ => cnt k s a b - lenOf v)
  case atStart => exact ⟨0, by omega, World.ownsRow_nil _ _ _ _, k0, k1, by rw [F0.out]; exact k2, k3, kf, by omega, hE2⟩
  case round =>
    obtain ⟨m, hm, hown, g0, g1, g2, g3, gf, gs, hE⟩ := hrel
    rename_i wr
    have HL := Lib.hid (owns_len hown)
    clear k0 k1 k2 k3 kf
    by_cases hlt : m < cnt k s a b
    · obtain ⟨m1, m2, m3, m4, m5, m6, m7, m8, m9⟩ := cut_mid HV.out h0 h1 h2 m hlt
      have hb1 := Cal.fst_bd HV.out (i := Cal.idx k s a + m + 1) (by omega)
      have hlb : cut k s a b m < b := by omega
      have HI := Lib.hid m4
      have HP := Lib.hid (pcs_cells_succ k s a b m)
      have HX := Lib.hid m9
      have hc0 : 0 ≤ cut k s a b m := by omega
      have hcm : (cnt k s a b : Int) ≤ 1000000 := by omega
      clear m1 m2 m3 m4 m5 m7 m8 m9
      have hcb : Cal.fst k s (Cal.idx k s a + m + 1) ≤ b ∨ b < Cal.fst k s (Cal.idx k s a + m + 1) := by omega
      rcases hcb with cb | cb
      · have HY : Hid (cut k s a b (m + 1) = (Cal.fst k s (Cal.idx k s a + m + 1))) := Lib.hid (by have := HX.out; omega)
        clear HX
        go_wp2_with fail
        refine (idx_ref_at _ _ _ _ _ HV.out hc0 (by omega) HI.out).mono ?_; rintro e w4 ⟨rfl, hg4⟩
        have q0 := kept hg4 g0
        have q1 := kept hg4 g1
        go_wp2_with fail
        refine (span_ref_at _ _ _ _ _ _ HV.out (by omega) rfl rfl m6).mono ?_; rintro e w5 ⟨rfl, hg5⟩
        have own5 := (ext_of_grown hg5).owns ((ext_of_grown hg4).owns hown)
        have hE5 := (hE.trans (ext_of_grown hg4)).trans (ext_of_grown hg5)
        have p0 := kept hg5 q0
        have p1 := kept hg5 q1
        have p2 := kept hg5 (kept hg4 g2)
        have p3 := kept hg5 (kept hg4 g3)
        have pf : w5.frozen? ⟨w.heap.size + 1, 0, none⟩ = false := by rw [hg5.2.1, hg4.2.1]; exact gf
        have hs5 : w.heap.size + 2 ≤ w5.heap.size := Nat.le_trans gs (Nat.le_trans hg4.2.2 hg5.2.2)
        have l1 : w.heap.size + 1 < w5.heap.size := by omega
        have l2 : w.heap.size < w5.heap.size := by omega
        have HN := Lib.hid (fun kk h => (own5.lt kk h).1)
        clear g0 g1 g2 g3 gf q0 q1 hg4 hg5 hown
        go_wp2_with (at_builtin; refine wpList_append_own _ rfl _ _ 36 rfl (w.heap.size + 2) 30 i0 (.agg #[.int .i64 0, .int .i64 0]) 2 16 Tryd.underlying36 hi hz0 hz1 hz2 rfl (by decide) _ _ _ rfl ((own5.alloc _).alloc _) ⟨w5.heap.size + 1, 0, none⟩ 1 1 [.int .i64 (cut k s a b m), .int .i64 (Cal.fst k s (Cal.idx k s a + m + 1))] rfl rfl (news2 _ _ _ _ _ (alsz w5 _)) (one2 _ _) (by unfold maxLen; omega) (by omega) (by simp; omega) ?_; intro v6 w6 hown6 hgrow6 hnil6; obtain ⟨r0, r1, r2, r3, rf, hE6, hs6⟩ := behind (al2_grown w5 _ _ _ _) hgrow6 HN.out p0 p1 p2 p3 pf hE5 rfl; have HO := Lib.hid hown6; clear hown6 hgrow6 hnil6)
        go_roundw
        case rel => exact ⟨m + 1, by omega, by rw [HP.out, HY.out]; exact ownsRow_setCell_below HO.out (Nat.lt_succ_self (w.heap.size + 1)) _, by simp [go_sem, r0], by simp [go_sem, r1], by rw [HY.out]; simp [go_sem, r2], by simp [go_sem, r3], by simp [go_sem, rf], by simp [World.setCell]; omega, hE6.setNew _ _ (by omega) _⟩
        case measure => have e1 := HL.out; have e2 := owns_len HO.out; simp; omega
      · have HY : Hid (cut k s a b (m + 1) = b) := Lib.hid (by have := HX.out; omega)
        clear HX
        go_wp2_with fail
        refine (idx_ref_at _ _ _ _ _ HV.out hc0 (by omega) HI.out).mono ?_; rintro e w4 ⟨rfl, hg4⟩
        have q0 := kept hg4 g0
        have q1 := kept hg4 g1
        go_wp2_with fail
        refine (span_ref_at _ _ _ _ _ _ HV.out (by omega) rfl rfl m6).mono ?_; rintro e w5 ⟨rfl, hg5⟩
        have own5 := (ext_of_grown hg5).owns ((ext_of_grown hg4).owns hown)
        have hE5 := (hE.trans (ext_of_grown hg4)).trans (ext_of_grown hg5)
        have p0 := kept hg5 q0
        have p1 := kept hg5 q1
        have p2 := kept hg5 (kept hg4 g2)
        have p3 := kept hg5 (kept hg4 g3)
        have pf : w5.frozen? ⟨w.heap.size + 1, 0, none⟩ = false := by rw [hg5.2.1, hg4.2.1]; exact gf
        have hs5 : w.heap.size + 2 ≤ w5.heap.size := Nat.le_trans gs (Nat.le_trans hg4.2.2 hg5.2.2)
        have l1 : w.heap.size + 1 < w5.heap.size := by omega
        have l2 : w.heap.size < w5.heap.size := by omega
        have HN := Lib.hid (fun kk h => (own5.lt kk h).1)
        clear g0 g1 g2 g3 gf q0 q1 hg4 hg5 hown
        go_wp2_with (at_builtin; refine wpList_append_own _ rfl _ _ 36 rfl (w.heap.size + 2) 30 i0 (.agg #[.int .i64 0, .int .i64 0]) 2 16 Tryd.underlying36 hi hz0 hz1 hz2 rfl (by decide) _ _ _ rfl ((own5.alloc _).alloc _) ⟨w5.heap.size + 1, 0, none⟩ 1 1 [.int .i64 (cut k s a b m), .int .i64 b] rfl rfl (news2 _ _ _ _ _ (alsz w5 _)) (one2 _ _) (by unfold maxLen; omega) (by omega) (by simp; omega) ?_; intro v6 w6 hown6 hgrow6 hnil6; obtain ⟨r0, r1, r2, r3, rf, hE6, hs6⟩ := behind (al2_grown w5 _ _ _ _) hgrow6 HN.out p0 p1 p2 p3 pf hE5 rfl; have HO := Lib.hid hown6; clear hown6 hgrow6 hnil6)
        go_roundw
        case rel => exact ⟨m + 1, by omega, by rw [HP.out, HY.out]; exact ownsRow_setCell_below HO.out (Nat.lt_succ_self (w.heap.size + 1)) _, by simp [go_sem, r0], by simp [go_sem, r1], by rw [HY.out]; simp [go_sem, r2], by simp [go_sem, r3], by simp [go_sem, rf], by simp [World.setCell]; omega, hE6.setNew _ _ (by omega) _⟩
        case measure => have e1 := HL.out; have e2 := owns_len HO.out; simp; omega
    · obtain rfl : m = cnt k s a b := by omega
      rw [FN.out] at g2
      go_wp2_with fail
      go_ret
      exact ⟨_, rfl, by rw [pcs_len]; exact owns_zero hown, hE⟩

theorem split_ref (k s a b : Int) (w : World) :
    Calls Tryd.prog 21 #[gv k s, pv a b] w (SplitPost (pl k s a b) w) := by
  cases h : okP k s a b
  · rw [pl_no h]; exact split_ref_no k s a b w h
  · obtain ⟨hv, h0, h1, h2⟩ := (okP_iff k s a b).1 h
    rw [show pl k s a b = pcs k s a b (cnt k s a b) by simp [pl, h]]
    exact split_ref_yes k s a b w hv h0 h1 h2
end Go.Proofs.YtjphkgnngkbgcaaDoor
