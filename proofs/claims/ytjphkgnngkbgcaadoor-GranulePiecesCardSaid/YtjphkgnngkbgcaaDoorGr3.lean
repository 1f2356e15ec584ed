/- Contracts of the reference's Span and Covering. -/
import Derived.Test.YtjphkgnngkbgcaaDoorGr2
import Derived.Deep.RegionHeld3
import Derived.IntWalk
namespace Go.Proofs.YtjphkgnngkbgcaaDoor
open Go.ChangeShapes Go.WideShapes Go.ChangeAt Go.RowKit

/-- a call that only grows the world leaves what an elder world held -/
theorem heldW {N : Nat} {args : Array Value} {w : World} {R : Ending} (W0 : World) (h : Calls Tryd.prog N args w fun e w' => e = R ∧ Grown w w') (hG : Grown W0 w) :
    Calls Tryd.prog N args w fun e w' => e = R ∧ (∀ b o, b < W0.heap.size → w'.cell? ⟨b, o, none⟩ = W0.cell? ⟨b, o, none⟩) ∧ (∀ a, w'.frozen? a = W0.frozen? a) ∧ Grown W0 w' :=
  h.mono fun _ _ ⟨he, hg⟩ => ⟨he, (gcell (grown_trans hG hg)).1, (gcell (grown_trans hG hg)).2, grown_trans hG hg⟩
theorem frozen_new (w : World) (b o : Nat) (h : w.heap.size ≤ b) : w.frozen? ⟨b, o, none⟩ = false := by
  simp [World.frozen?, Array.getElem?_eq_none h]
theorem al0 (w : World) (a b : Value) (t : TypeId) : (w.alloc (.cells #[a, b] t)).cell? ⟨w.heap.size, 0, none⟩ = some a := by rw [World.cell?, (MapKept.heap_alloc w _).1]; rfl
theorem al1 (w : World) (a b : Value) (t : TypeId) : (w.alloc (.cells #[a, b] t)).cell? ⟨w.heap.size, 1, none⟩ = some b := by rw [World.cell?, (MapKept.heap_alloc w _).1]; rfl
theorem alsz (w : World) (o : Obj) : (w.alloc o).heap.size = w.heap.size + 1 := by simp
theorem kept {w w' : World} (hg : Grown w w') {b o : Nat} {v : Value} (h : w.cell? ⟨b, o, none⟩ = some v) : w'.cell? ⟨b, o, none⟩ = some v := by
  rw [(gcell hg).1 _ _ (World.block_lt_of_cell? _ _ h)]; exact h

set_option maxHeartbeats 4000000 in
theorem span_ref (k s i : Int) (w : World) :
    Calls Tryd.prog 17 #[gv k s, .int .i64 i] w fun e w' => e = .returned (.tuple #[pv (spF k s i) (spT k s i), .bool (spB k s i)]) ∧ Grown w w' := by
  cases hb : spB k s i
  · obtain ⟨f, t, c⟩ := sp_no hb
    rw [f, t]
    clear hb f t
    cases hv : Cal.validB k s
    · have HV := Lib.hid hv
      clear hv c
      go_enter Tryd.func17, Tryd.ntmps17
      go_wp2_with fail
      refine (valid_ref_no _ _ _ HV.out).mono ?_; rintro e w1 ⟨rfl, hg⟩
      obtain ⟨hc, hf⟩ := gcell hg
      obtain ⟨hz', hz⟩ : w.heap.size < w1.heap.size ∧ w.heap.size + 1 < w1.heap.size := by have := hg.2.2; simp at this; omega
      go_wp2_with fail
      exact bodyPost_ret (v := .tuple #[pv 0 0, .bool false]) (by simp [results, Tryd.results17, go_sem, hc]) rfl ⟨rfl, ((grown_trans (((Grown.refl _).alloc _ _).alloc _ _) hg).setCell (by simp) _).setCell (by simp) _⟩
    · have HV := Lib.hid hv
      by_cases c0 : i < 0
      · clear hv c
        go_enter Tryd.func17, Tryd.ntmps17
        go_wp2_with fail
        refine (valid_ref_yes _ _ _ HV.out).mono ?_; rintro e w1 ⟨rfl, hg⟩
        obtain ⟨hc, hf⟩ := gcell hg
        obtain ⟨hz', hz⟩ : w.heap.size < w1.heap.size ∧ w.heap.size + 1 < w1.heap.size := by have := hg.2.2; simp at this; omega
        go_wp2_with fail
        exact bodyPost_ret (v := .tuple #[pv 0 0, .bool false]) (by simp [results, Tryd.results17, go_sem, hc]) rfl ⟨rfl, ((grown_trans (((Grown.refl _).alloc _ _).alloc _ _) hg).setCell (by simp) _).setCell (by simp) _⟩
      · have hbig : Cal.idx k s 999999 < i := by
          have hF : Cal.fst k s i = 1000000 := by
            rcases c with c | c | c | ⟨_, _, _, c⟩
            · rw [c] at hv; cases hv
            · omega
            · exact Cal.fst_big hv c
            · exact c
          by_cases d : i ≤ Cal.idx k s 999999
          · have := (Cal.fst_gal hv (i := i) (n := 999999) (by omega) (by omega) (by omega)).1 d; omega
          · omega
        have hbd := idx_bd (n := 999999) hv (by omega) (by omega)
        have hbig2 : Cal.idx k s 999999 + 1 ≤ i := by omega
        clear hv c
        go_enter Tryd.func17, Tryd.ntmps17
        go_wp2_with fail
        refine (valid_ref_yes _ _ _ HV.out).mono ?_; rintro e w1 ⟨rfl, hg⟩
        obtain ⟨hc, hf⟩ := gcell hg
        obtain ⟨hz', hz⟩ : w.heap.size < w1.heap.size ∧ w.heap.size + 1 < w1.heap.size := by have := hg.2.2; simp at this; omega
        go_wp2_with fail
        refine (su_ref _ _ _ _ HV.out (by omega) (by omega)).mono ?_; rintro e w2 ⟨rfl, hg2⟩
        obtain ⟨hc2, hf2⟩ := gcell hg2
        obtain ⟨hz2', hz2⟩ : w.heap.size < w2.heap.size ∧ w.heap.size + 1 < w2.heap.size := by have := hg2.2.2; omega
        go_wp2_with fail
        exact bodyPost_ret (v := .tuple #[pv 0 0, .bool false]) (by simp [results, Tryd.results17, go_sem, hc, hc2, hz]) rfl ⟨rfl, ((grown_trans (grown_trans (((Grown.refl _).alloc _ _).alloc _ _) hg) hg2).setCell (by simp) _).setCell (by simp) _⟩
  · obtain ⟨v, c2, c3, c4, f, t⟩ := sp_yes hb
    rw [f, t]
    have HV := Lib.hid v
    have hb1 := Cal.fst_bd v c2
    have hb2 := Cal.fst_bd v (i := i + 1) (by omega)
    have hbd := idx_bd (n := 999999) v (by omega) (by omega)
    have hsm : i < Cal.idx k s 999999 + 1 := by
      have := (Cal.fst_gal v (i := i) (n := 999999) (by omega) (by omega) (by omega)).2 (by omega); omega
    clear hb f t v
    go_enter Tryd.func17, Tryd.ntmps17
    go_wp2_with fail
    refine (valid_ref_yes _ _ _ HV.out).mono ?_; rintro e w1 ⟨rfl, hg⟩
    obtain ⟨hc, hf⟩ := gcell hg
    obtain ⟨hz', hz⟩ : w.heap.size < w1.heap.size ∧ w.heap.size + 1 < w1.heap.size := by have := hg.2.2; simp at this; omega
    go_wp2_with fail
    refine (su_ref _ _ _ _ HV.out (by omega) (by omega)).mono ?_; rintro e w2 ⟨rfl, hg2⟩
    obtain ⟨hc2, hf2⟩ := gcell hg2
    obtain ⟨hz2', hz2⟩ : w.heap.size < w2.heap.size ∧ w.heap.size + 1 < w2.heap.size := by have := hg2.2.2; omega
    have hG2 : Grown w w2 := grown_trans (grown_trans (((Grown.refl _).alloc _ _).alloc _ _) hg) hg2
    have k0 : w2.cell? ⟨w.heap.size, 0, none⟩ = some (.int .i64 k) := kept hg2 (kept hg (kept ((Grown.refl _).alloc _ _) (al0 _ _ _ _)))
    have k1 : w2.cell? ⟨w.heap.size, 1, none⟩ = some (.int .i64 s) := kept hg2 (kept hg (kept ((Grown.refl _).alloc _ _) (al1 _ _ _ _)))
    have k2 : w2.cell? ⟨w.heap.size + 1, 0, none⟩ = some (.int .i64 0) := by rw [← alsz w (.cells #[.int .i64 k, .int .i64 s] 23)]; exact kept hg2 (kept hg (al0 _ _ _ _))
    have k3 : w2.cell? ⟨w.heap.size + 1, 1, none⟩ = some (.int .i64 0) := by rw [← alsz w (.cells #[.int .i64 k, .int .i64 s] 23)]; exact kept hg2 (kept hg (al1 _ _ _ _))
    have kf : ∀ o, w2.frozen? ⟨w.heap.size + 1, o, none⟩ = false := fun o => by rw [hG2.2.1]; exact frozen_new _ _ _ (by omega)
    have hi10 : 0 ≤ i + 1 := by omega
    have hi1 : IntKind.i64.wrap (i + 1) = i + 1 := IntWalk.i64_in _ (by omega)
    clear hc hc2 hf hf2 hg hg2
    go_wp2_with fail
    go_region_held3 (fun w' => w'.cell? ⟨w.heap.size, 0, none⟩ = some (.int .i64 k) ∧ w'.cell? ⟨w.heap.size, 1, none⟩ = some (.int .i64 s)) (go_keep)
      (first | (go_at_call 30; refine (heldW w2 (fst_ref k s _ _ HV.out (by assumption)) ?_).mono ?_; (first | assumption | exact Grown.refl _ | exact (Grown.refl _).drew); rintro e w3 ⟨rfl, q0, q1, qG⟩))
    clear hi1
    go_wp2_with fail
    exact bodyPost_ret (v := .tuple #[pv (Cal.fst k s i) (Cal.fst k s (i + 1)), .bool true]) (by simp [results, Tryd.results17, go_sem, q0, hz2, k2, k3]) rfl ⟨rfl, ((grown_trans hG2 qG).setCell (by simp) _).setCell (by simp) _⟩
end Go.Proofs.YtjphkgnngkbgcaaDoor
