/- The walk of the law PeriodComposeSound: it returns true at every input. -/
import Derived.Test.YthendocboifjnaaCm4
import Derived.Test.YthendocboifjnaaCmpS
import Derived.Deep.RegionHeld3
namespace Go.Proofs.Ythendocboifjnaa
open Go.ChangeShapes Go.WideShapes Go.ChangeAt Go.RowKit

/-- three boxes, behind a call that grows the world -/
theorem trio {w w2 : World} {a b c d x y : Value} {t u v : TypeId} (hg : Grown (((w.alloc (.cells #[a, b] t)).alloc (.cells #[c, d] u)).alloc (.cells #[x, y] v)) w2) :
    w2.cell? ⟨w.heap.size, 0, none⟩ = some a ∧ w2.cell? ⟨w.heap.size, 1, none⟩ = some b ∧ w2.cell? ⟨w.heap.size + 1, 0, none⟩ = some c ∧ w2.cell? ⟨w.heap.size + 1, 1, none⟩ = some d ∧
    w2.cell? ⟨w.heap.size + 2, 0, none⟩ = some x ∧ w2.cell? ⟨w.heap.size + 2, 1, none⟩ = some y := by
  obtain ⟨k0, k1, k2, k3, k4, k5, _⟩ := boxes3 hg
  exact ⟨k0, k1, k2, k3, k4, k5⟩

set_option maxHeartbeats 4000000 in
theorem sound_bad (a b c d x y : Int) (w : World) (h : ¬ (okV a b = true ∧ okV c d = true ∧ okV x y = true)) : Calls Try.prog 6 #[pv a b, pv c d, pv x y] w fun e w' => e = .returned (.bool true) ∧ Ext w w' := by
  cases h1 : okV a b
  · have HV := Lib.hid h1
    clear h h1
    go_enter Try.func6, Try.ntmps6
    go_wp2_with fail
    refine (vp_no _ _ _ HV.out).mono ?_; rintro e w1 ⟨rfl, hg⟩
    have hE : Ext w w1 := ((((Ext.refl _).alloc _ _).alloc _ _).alloc _ _).trans (ext_of_grown hg)
    clear hg
    go_wp2_with fail
    refine (awake_law _).mono ?_; rintro e w3 ⟨rfl, hE3⟩
    go_wp2_with fail
    go_ret
    exact ⟨rfl, hE.trans hE3⟩
  · cases h2 : okV c d
    · have HV := Lib.hid h1
      have KV := Lib.hid h2
      clear h h1 h2
      go_enter Try.func6, Try.ntmps6
      go_wp2_with fail
      refine (vp_yes _ _ _ HV.out).mono ?_; rintro e w1 ⟨rfl, hg⟩
      obtain ⟨k0, k1, k2, k3, k4, k5⟩ := trio hg
      have hE : Ext w w1 := ((((Ext.refl _).alloc _ _).alloc _ _).alloc _ _).trans (ext_of_grown hg)
      clear hg
      go_wp2_with fail
      refine (vp_no _ _ _ KV.out).mono ?_; rintro e w2 ⟨rfl, hg2⟩
      go_wp2_with fail
      refine (awake_law _).mono ?_; rintro e w3 ⟨rfl, hE3⟩
      go_wp2_with fail
      go_ret
      exact ⟨rfl, (hE.trans (ext_of_grown hg2)).trans hE3⟩
    · have HV := Lib.hid h1
      have KV := Lib.hid h2
      have LV := Lib.hid (show okV x y = false by cases h3 : okV x y; · rfl
                                                  exact absurd ⟨h1, h2, h3⟩ h)
      clear h h1 h2
      go_enter Try.func6, Try.ntmps6
      go_wp2_with fail
      refine (vp_yes _ _ _ HV.out).mono ?_; rintro e w1 ⟨rfl, hg⟩
      obtain ⟨k0, k1, k2, k3, k4, k5⟩ := trio hg
      have hE : Ext w w1 := ((((Ext.refl _).alloc _ _).alloc _ _).alloc _ _).trans (ext_of_grown hg)
      clear hg
      go_wp2_with fail
      refine (vp_yes _ _ _ KV.out).mono ?_; rintro e w2 ⟨rfl, hg2⟩
      have m4 := kept hg2 k4
      have m5 := kept hg2 k5
      clear k0 k1 k2 k3 k4 k5
      go_wp2_with fail
      refine (vp_no _ _ _ LV.out).mono ?_; rintro e w3 ⟨rfl, hg3⟩
      go_wp2_with fail
      refine (awake_law _).mono ?_; rintro e w4 ⟨rfl, hE4⟩
      go_wp2_with fail
      go_ret
      exact ⟨rfl, ((hE.trans (ext_of_grown hg2)).trans (ext_of_grown hg3)).trans hE4⟩

set_option maxHeartbeats 8000000 in
theorem sound_ok (a b c d x y : Int) (w : World) (h : okV a b = true) (k : okV c d = true) (l : okV x y = true) : Calls Try.prog 6 #[pv a b, pv c d, pv x y] w fun e w' => e = .returned (.bool true) ∧ Ext w w' := by
  obtain ⟨_, h1, _⟩ := (okV_iff a b).1 h
  obtain ⟨_, k1, _⟩ := (okV_iff c d).1 k
  obtain ⟨_, l1, _⟩ := (okV_iff x y).1 l
  obtain ⟨z, hz⟩ : ∃ z, relF a b x y = z := ⟨_, rfl⟩
  have hm := comp_sound h1 k1 l1
  rw [hz, ← relV_yes h k, ← relV_yes k l] at hm
  have HM := Lib.hid (List.eq_append_cons_of_mem hm)
  have HR := Lib.hid ((relV_yes h l).trans hz)
  have HV := Lib.hid h
  have KV := Lib.hid k
  have LV := Lib.hid l
  clear h k l h1 k1 l1 hz hm
  go_enter Try.func6, Try.ntmps6
  go_wp2_with fail
  refine (vp_yes _ _ _ HV.out).mono ?_; rintro e w1 ⟨rfl, hg⟩
  obtain ⟨k0, k1, k2, k3, k4, k5⟩ := trio hg
  have hE : Ext w w1 := ((((Ext.refl _).alloc _ _).alloc _ _).alloc _ _).trans (ext_of_grown hg)
  clear hg
  go_wp2_with fail
  refine (vp_yes _ _ _ KV.out).mono ?_; rintro e w2 ⟨rfl, hg2⟩
  have m0 := kept hg2 k0
  have m1 := kept hg2 k1
  have m2 := kept hg2 k2
  have m3 := kept hg2 k3
  have m4 := kept hg2 k4
  have m5 := kept hg2 k5
  have hE2 := hE.trans (ext_of_grown hg2)
  clear k0 k1 k2 k3 k4 k5 hg2 hE
  go_wp2_with fail
  refine (vp_yes _ _ _ LV.out).mono ?_; rintro e w3 ⟨rfl, hg3⟩
  have k0 := kept hg3 m0
  have k1 := kept hg3 m1
  have k2 := kept hg3 m2
  have k3 := kept hg3 m3
  have k4 := kept hg3 m4
  have k5 := kept hg3 m5
  have hE3 := hE2.trans (ext_of_grown hg3)
  clear m0 m1 m2 m3 m4 m5 hg3 hE2
  go_wp2_with fail
  refine (relp_at _ _ _ _ _ _ HR.out).mono ?_; rintro e W0 ⟨rfl, hg4⟩
  have m0 := kept hg4 k0
  have m1 := kept hg4 k1
  have m2 := kept hg4 k2
  have m3 := kept hg4 k3
  have m4 := kept hg4 k4
  have m5 := kept hg4 k5
  have hE0 := hE3.trans (ext_of_grown hg4)
  have hD : Ext W0 W0.drew := (Ext.refl W0).drew
  have z0 : w.heap.size < W0.heap.size := World.block_lt_of_cell? _ _ m0
  have z1 : w.heap.size + 1 < W0.heap.size := World.block_lt_of_cell? _ _ m2
  have z2 : w.heap.size + 2 < W0.heap.size := World.block_lt_of_cell? _ _ m4
  clear k0 k1 k2 k3 k4 k5 hg4 hE3
  go_wp2_with fail
  go_region_held3 (fun w' => w'.cell? ⟨w.heap.size, 0, none⟩ = some (.int .i64 a) ∧ w'.cell? ⟨w.heap.size, 1, none⟩ = some (.int .i64 b) ∧ w'.cell? ⟨w.heap.size + 1, 0, none⟩ = some (.int .i64 c) ∧ w'.cell? ⟨w.heap.size + 1, 1, none⟩ = some (.int .i64 d) ∧ w'.cell? ⟨w.heap.size + 2, 0, none⟩ = some (.int .i64 x) ∧ w'.cell? ⟨w.heap.size + 2, 1, none⟩ = some (.int .i64 y)) (go_keep)
    (first
      | (go_at_call 17; refine (heldE W0 (gE (rel_per _ _ _ _ _)) ?_).mono ?_; assumption; rintro e w3 ⟨rfl, q0, qG⟩)
      | (go_at_call 22; refine (comp_per _ _ _).mono ?_; rintro e w4 ⟨v, rfl, ho, e4⟩; have q0 := fun b o hb => (qG.trans e4).cell (b := b) (o := o) hb; have hE4 := qG.trans e4; obtain ⟨ad, cap, rfl, hlm, hsh⟩ := owns_shapeI ho; unfold maxLen at hlm; have SH := Lib.hid hsh; clear hsh ho))
  obtain ⟨f, u, hl, hf⟩ := HM.out
  generalize compL (relV a b c d) (relV c d x y) = l at hl hlm SH ⊢
  obtain ⟨n, hn⟩ : ∃ n, n = l.length := ⟨_, rfl⟩
  have hfn : f.length < n := by rw [hn, hl, List.length_append, List.length_cons]; omega
  have hL := Lib.hid hl
  have HN := Lib.hid hn
  have HF := Lib.hid hf
  rw [← hn]
  rw [← hn] at hlm
  have hE5 := hE0.trans hE4
  clear hl hn hf HM q0 qG e4 hE4 hE0
  go_wp2_with fail
  go_loop [35] (fun i => ∃ k : Nat, k ≤ f.length ∧ i = .int .i64 k) (fun i => n - (intOf i).toNat)
  case atStart => exact ⟨0, by omega, rfl⟩
  case round =>
    obtain ⟨k, hk, rfl⟩ := hrel
    have hkl : k < l.length := by rw [← HN.out]; omega
    obtain ⟨g, rfl, c0⟩ := SH.out k hkl
    by_cases hlt : k < f.length
    · have hv : l[k] ≠ z := by
        have hLo := hL.out
        subst hLo
        rw [List.getElem_append_left hlt]
        exact fun e => HF.out (e ▸ List.getElem_mem hlt)
      generalize l[k] = v at hv c0
      have t1 : (v == z) = false := beq_eq_false_iff_ne.2 hv
      have hi1 : (k : Int) < (n : Int) := by omega
      clear hv
      go_wp2_with fail
      go_round
      case rel => exact ⟨k + 1, by omega, by go_num⟩
      case measure => simp [intOf]; omega
    · have hv : l[k] = z := by
        have hLo := hL.out
        subst hLo
        obtain rfl : k = f.length := by omega
        simp
      rw [hv] at c0
      have hi1 : (k : Int) < (n : Int) := by omega
      clear hv
      go_wp2_with fail
      refine (awake_law _).mono ?_; rintro e w6 ⟨rfl, hE6⟩
      go_wp2_with fail
      go_ret
      exact ⟨rfl, hE5.trans hE6⟩

theorem law_PeriodComposeSound (a b c d x y : Int) (w : World) : Calls Try.prog 6 #[pv a b, pv c d, pv x y] w fun e w' => e = .returned (.bool true) ∧ Ext w w' := by
  by_cases h : okV a b = true ∧ okV c d = true ∧ okV x y = true
  · exact sound_ok a b c d x y w h.1 h.2.1 h.2.2
  · exact sound_bad a b c d x y w h
end Go.Proofs.Ythendocboifjnaa
