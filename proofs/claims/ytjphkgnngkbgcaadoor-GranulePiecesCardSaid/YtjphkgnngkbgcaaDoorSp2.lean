/- The contract of granule's Split. -/
import Derived.Test.YtjphkgnngkbgcaaDoorSp1
namespace Go.Proofs.YtjphkgnngkbgcaaDoor
open Go.ChangeShapes Go.WideShapes Go.ChangeAt Go.RowKit

theorem infoP : (Tryd.prog.info? 30).map (fun i => (i.zero, i.size, i.bytes)) = some (some (.agg #[.int .i64 0, .int .i64 0]), 2, 16) := by kernel_rfl
theorem ext_grownBy {w X w5 : World} {row : Option Nat} (h : Ext w X) (hg : X.grownBy w5 row) (hr : ∀ k, row = some k → w.heap.size ≤ k) : Ext w w5 := by
  have hb : ∀ i, i < w.heap.size → w5.heap[i]? = X.heap[i]? := fun i hi => hg.block i (Nat.lt_of_lt_of_le hi h.2.2) (fun e => by have := hr i e.symm; omega)
  refine ⟨⟨hg.os.trans h.1.1, hg.output.trans h.1.2.1, fun i hi => ?_⟩, fun a ha => (World.frozen?_of_block (hb _ ha)).trans (h.2.1 a ha), Nat.le_trans h.2.2 hg.size⟩
  rw [hb i hi]
  exact h.1.2.2 i hi
theorem Ext.alloc {w X : World} (h : Ext w X) (c : Array Value) (t : TypeId) : Ext w (X.alloc (.cells c t)) := h.trans (ext_of_grown ((Grown.refl _).alloc _ _))

/-- a slice of periods -/
def SplitPost (l : List (Int × Int)) (w : World) (e : Ending) (w' : World) : Prop := ∃ v, e = .returned v ∧ w'.ownsRow 0 30 2 v l.length (cellsL l) ∧ Ext w w'

theorem pl_no {k s a b : Int} (h : okP k s a b = false) : pl k s a b = [] := by simp [pl, h]

set_option maxHeartbeats 2000000 in
theorem split_gra_no (k s a b : Int) (w : World) (h : okP k s a b = false) :
    Calls Tryd.prog 20 #[gv k s, pv a b] w (SplitPost [] w) := by
  by_cases h1 : a < 0
  · clear h
    go_enter Tryd.func20, Tryd.ntmps20
    go_wp2
    go_ret
    exact ⟨_, rfl, World.ownsRow_nil _ _ _ _, ((Ext.refl _).alloc _ _).alloc _ _⟩
  · by_cases h2 : b ≤ a
    · have h1' : 0 ≤ a := by omega
      clear h h1
      go_enter Tryd.func20, Tryd.ntmps20
      go_wp2
      go_ret
      exact ⟨_, rfl, World.ownsRow_nil _ _ _ _, ((Ext.refl _).alloc _ _).alloc _ _⟩
    · by_cases h3 : 1000000 < b
      · have h1' : 0 ≤ a := by omega
        have h2' : a < b := by omega
        clear h h1 h2
        go_enter Tryd.func20, Tryd.ntmps20
        go_wp2
        go_ret
        exact ⟨_, rfl, World.ownsRow_nil _ _ _ _, ((Ext.refl _).alloc _ _).alloc _ _⟩
      · have h1' : 0 ≤ a := by omega
        have h2' : a < b := by omega
        have h3' : b ≤ 1000000 := by omega
        have hv : Cal.validB k s = false := by
          cases hv : Cal.validB k s
          · rfl
          · rw [(okP_iff k s a b).2 ⟨hv, h1', h2', h3'⟩] at h; cases h
        have HV := Lib.hid hv
        clear h h1 h2 h3 hv
        go_enter Tryd.func20, Tryd.ntmps20
        go_wp2_with fail
        refine (idx_gra_no _ _ _ _ (Or.inl HV.out)).mono ?_; rintro e w1 ⟨rfl, hg⟩
        go_wp2_with fail
        go_ret
        exact ⟨_, rfl, World.ownsRow_nil _ _ _ _, (((Ext.refl _).alloc _ _).alloc _ _).trans (ext_of_grown hg)⟩

theorem news2 (Y : World) (x y : Value) (t : TypeId) (n : Nat) (h : Y.heap.size = n) : ∀ j u, [x, y][j]? = some u → (Y.alloc (.cells #[x, y] t)).cell? ((⟨n, 0, none⟩ : Addr).add j) = some u := by
  intro j u hj
  subst h
  match j, hj with
  | 0, hj => simp at hj; subst hj; exact al0 _ _ _ _
  | 1, hj => simp at hj; subst hj; exact al1 _ _ _ _
theorem one2 (x y : Int) : ∀ u ∈ [Value.int .i64 x, Value.int .i64 y], u.oneCell' = true := by
  intro u hu
  simp at hu
  rcases hu with rfl | rfl <;> rfl

set_option maxHeartbeats 8000000 in
theorem split_gra_yes (k s a b : Int) (w : World) (hT : Tab w) (hv : Cal.validB k s = true) (h0 : 0 ≤ a) (h1 : a < b) (h2 : b ≤ 1000000) :
    Calls Tryd.prog 20 #[gv k s, pv a b] w (SplitPost (pcs k s a b (cnt k s a b)) w) := by
  obtain ⟨i0, hi, hz0, hz1, hz2⟩ := info_parts infoP
  have HT := Lib.hid ((hT.alloc #[.int .i64 k, .int .i64 s] 23).alloc #[.int .i64 a, .int .i64 b] 30)
  have HV := Lib.hid hv
  obtain ⟨c1, c2, c3⟩ := cnt_facts hv h0 h1 h2
  have b0 := idx_bd hv h0 (by omega)
  have b1 := idx_bd hv (n := b - 1) (by omega) (by omega)
  have HC := Lib.hid c2
  have hlf : Cal.idx k s a ≤ Cal.idx k s (b - 1) := by omega
  clear hT hv c2
  go_enter Tryd.func20, Tryd.ntmps20
  go_wp2_with fail
  refine (idx_gra_yes _ _ _ _ HT.out HV.out h0 (by omega)).mono ?_; rintro e w1 ⟨rfl, hg⟩
  obtain ⟨hc, hf⟩ := gcell hg
  obtain ⟨hz', hz⟩ : w.heap.size < w1.heap.size ∧ w.heap.size + 1 < w1.heap.size := by have := hg.2.2; simp at this; omega
  have HT1 := Lib.hid (HT.out.grown hg)
  go_wp2_with fail
  refine (idx_gra_yes _ _ _ _ HT1.out HV.out (by omega) (by omega)).mono ?_; rintro e w2 ⟨rfl, hg2⟩
  have HT2 := Lib.hid (HT1.out.grown hg2)
  obtain ⟨hy', hy⟩ : w.heap.size < w2.heap.size ∧ w.heap.size + 1 < w2.heap.size := by have := hg2.2.2; omega
  have hE2 : Ext w w2 := (((Ext.refl _).alloc _ _).alloc _ _).trans ((ext_of_grown hg).trans (ext_of_grown hg2))
  have k0 : w2.cell? ⟨w.heap.size, 0, none⟩ = some (.int .i64 k) := kept hg2 (kept hg (kept ((Grown.refl _).alloc _ _) (al0 _ _ _ _)))
  have k1 : w2.cell? ⟨w.heap.size, 1, none⟩ = some (.int .i64 s) := kept hg2 (kept hg (kept ((Grown.refl _).alloc _ _) (al1 _ _ _ _)))
  have k2 : w2.cell? ⟨w.heap.size + 1, 0, none⟩ = some (.int .i64 a) := by rw [← alsz w (.cells #[.int .i64 k, .int .i64 s] 23)]; exact kept hg2 (kept hg (al0 _ _ _ _))
  have k3 : w2.cell? ⟨w.heap.size + 1, 1, none⟩ = some (.int .i64 b) := by rw [← alsz w (.cells #[.int .i64 k, .int .i64 s] 23)]; exact kept hg2 (kept hg (al1 _ _ _ _))
  clear hc hf hg hg2
  go_wp2_with (at_make; refine wpList_make_own _ rfl _ _ 36 rfl w2.heap.size 30 i0 (.agg #[.int .i64 0, .int .i64 0]) 2 Tryd.underlying36 hi hz0 hz1 .i64 .i64 _ (cnt k s a b) rfl rfl (by have := HC.out; omega) (by rw [hz2]; omega) (by unfold maxLen; omega) (Nat.le_refl _) ?_; intro w3 hown0 hgrow0)
  have hE3 : Ext w2 w3 := ext_grownBy (Ext.refl _) hgrow0 (fun _ h => by cases h)
  clear hgrow0
  go_loopw [9, 10] (fun p i wr => ∃ m : Nat, m ≤ cnt k s a b ∧ i = .int .i64 (Cal.idx k s a + m) ∧ p = .slice (some ⟨w2.heap.size, 0, none⟩) m (cnt k s a b) ∧ wr.ownsRow w2.heap.size 30 2 (.slice (some ⟨w2.heap.size, 0, none⟩) m (cnt k s a b)) m (cellsL (pcs k s a b m)) ∧ Ext w2 wr) (fun _ i _ => (Cal.idx k s (b - 1) + 1 - intOf i).toNat)
  case atStart => exact ⟨0, by omega, by simp, rfl, hown0, hE3⟩
  case round =>
    obtain ⟨m, hm, rfl, rfl, hown, hE⟩ := hrel
    rename_i wr
    clear hown0 hE3
    have HC' := HC.out
    by_cases hlt : m < cnt k s a b
    · obtain ⟨m1, m2, m3, m4, m5, m6, m7, m8, m9⟩ := cut_mid HV.out h0 h1 h2 m hlt
      have hb0 := Cal.fst_bd HV.out (i := Cal.idx k s a + m) (by omega)
      have hb1 := Cal.fst_bd HV.out (i := Cal.idx k s a + m + 1) (by omega)
      have g0 := hE.keeps k0
      have g1 := hE.keeps k1
      have g2 := hE.keeps k2
      have g3 := hE.keeps k3
      have HTr := Lib.hid (HT2.out.ext hE)
      have HP := Lib.hid (pcs_cells_succ k s a b m)
      have hle : Cal.idx k s a + m ≤ Cal.idx k s (b - 1) := by omega
      have HX : Hid (cut k s a b m = max (Cal.fst k s (Cal.idx k s a + m)) a ∧ cut k s a b (m + 1) = min (Cal.fst k s (Cal.idx k s a + m + 1)) b) := Lib.hid ⟨m8, m9⟩
      clear m1 m2 m3 m4 m5 m7 m8 m9 HC' k0 k1 k2 k3
      have hca : Cal.fst k s (Cal.idx k s a + m) < a ∨ a ≤ Cal.fst k s (Cal.idx k s a + m) := by omega
      have hcb : Cal.fst k s (Cal.idx k s a + m + 1) ≤ b ∨ b < Cal.fst k s (Cal.idx k s a + m + 1) := by omega
      rcases hca with ca | ca
      · rcases hcb with cb | cb
        · have HY : Hid (cut k s a b m = a ∧ cut k s a b (m + 1) = (Cal.fst k s (Cal.idx k s a + m + 1))) := Lib.hid (by have := HX.out; omega)
          clear HX
          go_wp2_with fail
          refine (span_at _ _ _ _ _ _ HTr.out HV.out (by omega) rfl rfl (by omega)).mono ?_; rintro e w4 ⟨rfl, hg4⟩
          obtain ⟨hc4, hf4⟩ := gcell hg4
          have own4 := (ext_of_grown hg4).owns hown
          have hE4 := hE.trans (ext_of_grown hg4)
          have hs4 : w2.heap.size ≤ w4.heap.size := hE4.2.2
          have q0 := kept hg4 g0
          have q1 := kept hg4 g1
          have q2 := kept hg4 g2
          have q3 := kept hg4 g3
          have l1 : w.heap.size + 1 < w4.heap.size := by omega
          have l2 : w.heap.size < w4.heap.size := by omega
          clear hc4 g0 g1 g2 g3
          go_wp2_with (at_builtin; refine wpList_append_fits _ rfl _ _ 36 rfl w2.heap.size 30 i0 2 Tryd.underlying36 hi hz1 w2.heap.size m (cnt k s a b) _ rfl ((own4.alloc _).alloc _) ⟨w4.heap.size + 1, 0, none⟩ 1 1 [.int .i64 a, .int .i64 (Cal.fst k s (Cal.idx k s a + m + 1))] rfl rfl (news2 _ _ _ _ _ (alsz w4 _)) (one2 _ _) (by omega) ?_; intro w5 hown5 hgrow5)
          have hE5 : Ext w2 w5 := ext_grownBy ((hE4.alloc _ _).alloc _ _) hgrow5 (fun _ h => by cases h; exact Nat.le_refl _)
          clear hgrow5
          go_roundw
          case rel => exact ⟨m + 1, by omega, by go_num, rfl, by rw [HP.out, HY.out.1, HY.out.2]; exact hown5, hE5⟩
          case measure => simp [intOf]; omega
        · have HY : Hid (cut k s a b m = a ∧ cut k s a b (m + 1) = b) := Lib.hid (by have := HX.out; omega)
          clear HX
          go_wp2_with fail
          refine (span_at _ _ _ _ _ _ HTr.out HV.out (by omega) rfl rfl (by omega)).mono ?_; rintro e w4 ⟨rfl, hg4⟩
          obtain ⟨hc4, hf4⟩ := gcell hg4
          have own4 := (ext_of_grown hg4).owns hown
          have hE4 := hE.trans (ext_of_grown hg4)
          have hs4 : w2.heap.size ≤ w4.heap.size := hE4.2.2
          have q0 := kept hg4 g0
          have q1 := kept hg4 g1
          have q2 := kept hg4 g2
          have q3 := kept hg4 g3
          have l1 : w.heap.size + 1 < w4.heap.size := by omega
          have l2 : w.heap.size < w4.heap.size := by omega
          clear hc4 g0 g1 g2 g3
          go_wp2_with (at_builtin; refine wpList_append_fits _ rfl _ _ 36 rfl w2.heap.size 30 i0 2 Tryd.underlying36 hi hz1 w2.heap.size m (cnt k s a b) _ rfl ((own4.alloc _).alloc _) ⟨w4.heap.size + 1, 0, none⟩ 1 1 [.int .i64 a, .int .i64 b] rfl rfl (news2 _ _ _ _ _ (alsz w4 _)) (one2 _ _) (by omega) ?_; intro w5 hown5 hgrow5)
          have hE5 : Ext w2 w5 := ext_grownBy ((hE4.alloc _ _).alloc _ _) hgrow5 (fun _ h => by cases h; exact Nat.le_refl _)
          clear hgrow5
          go_roundw
          case rel => exact ⟨m + 1, by omega, by go_num, rfl, by rw [HP.out, HY.out.1, HY.out.2]; exact hown5, hE5⟩
          case measure => simp [intOf]; omega
      · rcases hcb with cb | cb
        · have HY : Hid (cut k s a b m = (Cal.fst k s (Cal.idx k s a + m)) ∧ cut k s a b (m + 1) = (Cal.fst k s (Cal.idx k s a + m + 1))) := Lib.hid (by have := HX.out; omega)
          clear HX
          go_wp2_with fail
          refine (span_at _ _ _ _ _ _ HTr.out HV.out (by omega) rfl rfl (by omega)).mono ?_; rintro e w4 ⟨rfl, hg4⟩
          obtain ⟨hc4, hf4⟩ := gcell hg4
          have own4 := (ext_of_grown hg4).owns hown
          have hE4 := hE.trans (ext_of_grown hg4)
          have hs4 : w2.heap.size ≤ w4.heap.size := hE4.2.2
          have q0 := kept hg4 g0
          have q1 := kept hg4 g1
          have q2 := kept hg4 g2
          have q3 := kept hg4 g3
          have l1 : w.heap.size + 1 < w4.heap.size := by omega
          have l2 : w.heap.size < w4.heap.size := by omega
          clear hc4 g0 g1 g2 g3
          go_wp2_with (at_builtin; refine wpList_append_fits _ rfl _ _ 36 rfl w2.heap.size 30 i0 2 Tryd.underlying36 hi hz1 w2.heap.size m (cnt k s a b) _ rfl ((own4.alloc _).alloc _) ⟨w4.heap.size + 1, 0, none⟩ 1 1 [.int .i64 (Cal.fst k s (Cal.idx k s a + m)), .int .i64 (Cal.fst k s (Cal.idx k s a + m + 1))] rfl rfl (news2 _ _ _ _ _ (alsz w4 _)) (one2 _ _) (by omega) ?_; intro w5 hown5 hgrow5)
          have hE5 : Ext w2 w5 := ext_grownBy ((hE4.alloc _ _).alloc _ _) hgrow5 (fun _ h => by cases h; exact Nat.le_refl _)
          clear hgrow5
          go_roundw
          case rel => exact ⟨m + 1, by omega, by go_num, rfl, by rw [HP.out, HY.out.1, HY.out.2]; exact hown5, hE5⟩
          case measure => simp [intOf]; omega
        · have HY : Hid (cut k s a b m = (Cal.fst k s (Cal.idx k s a + m)) ∧ cut k s a b (m + 1) = b) := Lib.hid (by have := HX.out; omega)
          clear HX
          go_wp2_with fail
          refine (span_at _ _ _ _ _ _ HTr.out HV.out (by omega) rfl rfl (by omega)).mono ?_; rintro e w4 ⟨rfl, hg4⟩
          obtain ⟨hc4, hf4⟩ := gcell hg4
          have own4 := (ext_of_grown hg4).owns hown
          have hE4 := hE.trans (ext_of_grown hg4)
          have hs4 : w2.heap.size ≤ w4.heap.size := hE4.2.2
          have q0 := kept hg4 g0
          have q1 := kept hg4 g1
          have q2 := kept hg4 g2
          have q3 := kept hg4 g3
          have l1 : w.heap.size + 1 < w4.heap.size := by omega
          have l2 : w.heap.size < w4.heap.size := by omega
          clear hc4 g0 g1 g2 g3
          go_wp2_with (at_builtin; refine wpList_append_fits _ rfl _ _ 36 rfl w2.heap.size 30 i0 2 Tryd.underlying36 hi hz1 w2.heap.size m (cnt k s a b) _ rfl ((own4.alloc _).alloc _) ⟨w4.heap.size + 1, 0, none⟩ 1 1 [.int .i64 (Cal.fst k s (Cal.idx k s a + m)), .int .i64 b] rfl rfl (news2 _ _ _ _ _ (alsz w4 _)) (one2 _ _) (by omega) ?_; intro w5 hown5 hgrow5)
          have hE5 : Ext w2 w5 := ext_grownBy ((hE4.alloc _ _).alloc _ _) hgrow5 (fun _ h => by cases h; exact Nat.le_refl _)
          clear hgrow5
          go_roundw
          case rel => exact ⟨m + 1, by omega, by go_num, rfl, by rw [HP.out, HY.out.1, HY.out.2]; exact hown5, hE5⟩
          case measure => simp [intOf]; omega
    · obtain rfl : m = cnt k s a b := by omega
      have hgt : Cal.idx k s (b - 1) < Cal.idx k s a + cnt k s a b := by omega
      clear HC'
      go_wp2_with fail
      go_ret
      exact ⟨_, rfl, by rw [pcs_len]; exact owns_zero hown, hE2.trans hE⟩

theorem split_gra (k s a b : Int) (w : World) (hT : Tab w) :
    Calls Tryd.prog 20 #[gv k s, pv a b] w (SplitPost (pl k s a b) w) := by
  cases h : okP k s a b
  · rw [pl_no h]; exact split_gra_no k s a b w h
  · obtain ⟨hv, h0, h1, h2⟩ := (okP_iff k s a b).1 h
    rw [show pl k s a b = pcs k s a b (cnt k s a b) by simp [pl, h]]
    exact split_gra_yes k s a b w hT hv h0 h1 h2
end Go.Proofs.YtjphkgnngkbgcaaDoor
