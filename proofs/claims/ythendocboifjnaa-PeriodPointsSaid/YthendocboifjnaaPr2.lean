/- Contracts of Relation, the program's and the reference's. -/
import Derived.Test.YthendocboifjnaaPr1
namespace Go.Proofs.Ythendocboifjnaa
open Go.ChangeShapes Go.WideShapes Go.ChangeAt Go.RowKit

set_option maxHeartbeats 4000000 in
theorem def_per (a b c d : Int) (w : World) : Calls Try.prog 29 #[pv a b, pv c d] w fun e w' => e = .returned (.int .i64 (defF a b c d)) ∧ Grown w w' := by
  go_enter Try.func29, Try.ntmps29
  go_wp2
  all_goals
    go_ret
    refine ⟨ret_int ?_, ((Grown.refl _).alloc _ _).alloc _ _⟩
    try simp only [beq_iff_eq, beq_eq_false_iff_ne] at *
    unfold defF
    (repeat (first | rw [if_neg (by omega)] | rw [if_pos (by omega)]))
set_option maxHeartbeats 4000000 in
theorem relr_yes (a b c d : Int) (w : World) (h : okV a b = true) (k : okV c d = true) : Calls Try.prog 18 #[pv a b, pv c d] w fun e w' => e = .returned (.int .i64 (relF a b c d)) ∧ Grown w w' := by
  obtain ⟨h0, h1, h2⟩ := (okV_iff a b).1 h
  obtain ⟨k0, k1, k2⟩ := (okV_iff c d).1 k
  have HV := Lib.hid h
  have KV := Lib.hid k
  clear h k h0 h2 k0 k2
  go_enter Try.func18, Try.ntmps18
  go_wp2_with fail
  refine (vp_yes _ _ _ HV.out).mono ?_; rintro e w1 ⟨rfl, hg⟩
  obtain ⟨hc, hf⟩ := gcell hg
  obtain ⟨hz', hz⟩ : w.heap.size < w1.heap.size ∧ w.heap.size + 1 < w1.heap.size := by have := hg.2.2; simp at this; omega
  go_wp2_with fail
  refine (vp_yes _ _ _ KV.out).mono ?_; rintro e w2 ⟨rfl, hg2⟩
  have hE : Grown w w2 := (grown_trans (grown_trans (((Grown.refl _).alloc _ _).alloc _ _) hg) hg2)
  obtain ⟨k0, k1, k2, k3⟩ := boxes hg hg2
  clear hc hf hg hg2
  go_wp2
  all_goals
    go_ret
    refine ⟨ret_int ?_, hE⟩
    clear k0 k1 k2 k3 hE
    try simp only [beq_iff_eq, beq_eq_false_iff_ne] at *
    unfold relF
    (repeat (first | rw [if_neg (by omega)] | rw [if_pos (by omega)]))
set_option maxHeartbeats 4000000 in
theorem relr_no (a b c d : Int) (w : World) (h : okV a b = false ∨ okV c d = false) : Calls Try.prog 18 #[pv a b, pv c d] w fun e w' => e = .returned (.int .i64 0) ∧ Grown w w' := by
  cases h1 : okV a b
  · have HV := Lib.hid h1
    clear h h1
    go_enter Try.func18, Try.ntmps18
    go_wp2_with fail
    refine (vp_no _ _ _ HV.out).mono ?_; rintro e w1 ⟨rfl, hg⟩
    go_wp2_with fail
    go_ret
    exact ⟨rfl, grown_trans (((Grown.refl _).alloc _ _).alloc _ _) hg⟩
  · have HV := Lib.hid h1
    have KV := Lib.hid (show okV c d = false by rcases h with h | h; · rw [h1] at h; cases h
                                                exact h)
    clear h h1
    go_enter Try.func18, Try.ntmps18
    go_wp2_with fail
    refine (vp_yes _ _ _ HV.out).mono ?_; rintro e w1 ⟨rfl, hg⟩
    obtain ⟨hc, hf⟩ := gcell hg
    obtain ⟨hz', hz⟩ : w.heap.size < w1.heap.size ∧ w.heap.size + 1 < w1.heap.size := by have := hg.2.2; simp at this; omega
    go_wp2_with fail
    refine (vp_no _ _ _ KV.out).mono ?_; rintro e w2 ⟨rfl, hg2⟩
    go_wp2_with fail
    go_ret
    exact ⟨rfl, grown_trans (grown_trans (((Grown.refl _).alloc _ _).alloc _ _) hg) hg2⟩
set_option maxHeartbeats 4000000 in
theorem relp_no (a b c d : Int) (w : World) (h : okV a b = false ∨ okV c d = false) : Calls Try.prog 17 #[pv a b, pv c d] w fun e w' => e = .returned (.int .i64 0) ∧ Grown w w' := by
  cases h1 : okV a b
  · have HV := Lib.hid h1
    clear h h1
    go_enter Try.func17, Try.ntmps17
    go_wp2_with fail
    refine (vpp_no _ _ _ HV.out).mono ?_; rintro e w1 ⟨rfl, hg⟩
    go_wp2_with fail
    go_ret
    exact ⟨rfl, grown_trans (((Grown.refl _).alloc _ _).alloc _ _) hg⟩
  · have HV := Lib.hid h1
    have KV := Lib.hid (show okV c d = false by rcases h with h | h; · rw [h1] at h; cases h
                                                exact h)
    clear h h1
    go_enter Try.func17, Try.ntmps17
    go_wp2_with fail
    refine (vpp_yes _ _ _ HV.out).mono ?_; rintro e w1 ⟨rfl, hg⟩
    obtain ⟨hc, hf⟩ := gcell hg
    obtain ⟨hz', hz⟩ : w.heap.size < w1.heap.size ∧ w.heap.size + 1 < w1.heap.size := by have := hg.2.2; simp at this; omega
    go_wp2_with fail
    refine (vpp_no _ _ _ KV.out).mono ?_; rintro e w2 ⟨rfl, hg2⟩
    go_wp2_with fail
    go_ret
    exact ⟨rfl, grown_trans (grown_trans (((Grown.refl _).alloc _ _).alloc _ _) hg) hg2⟩
theorem def_at (a b c d r : Int) (w : World) (h : defF a b c d = r) : Calls Try.prog 29 #[pv a b, pv c d] w fun e w' => e = .returned (.int .i64 r) ∧ Grown w w' := by
  have := def_per a b c d w; rwa [h] at this
theorem inv_at (r s : Int) (w : World) (h : invF r = s) : Calls Try.prog 19 #[.int .i64 r] w fun e w' => e = .returned (.int .i64 s) ∧ w = w' := by
  have := inv_per r w; rwa [h] at this
set_option maxHeartbeats 4000000 in
theorem relp_yes (a b c d : Int) (w : World) (h : okV a b = true) (k : okV c d = true) : Calls Try.prog 17 #[pv a b, pv c d] w fun e w' => e = .returned (.int .i64 (relF a b c d)) ∧ Grown w w' := by
  obtain ⟨h0, h1, h2⟩ := (okV_iff a b).1 h
  obtain ⟨k0, k1, k2⟩ := (okV_iff c d).1 k
  have HV := Lib.hid h
  have KV := Lib.hid k
  obtain ⟨x, hx⟩ : ∃ x, defF a b c d = x := ⟨_, rfl⟩
  obtain ⟨y, hy⟩ : ∃ y, defF c d a b = y := ⟨_, rfl⟩
  obtain ⟨e1, e2⟩ := def_rel a b c d h1 k1
  have HX := Lib.hid hx
  have HY := Lib.hid hy
  rw [hx] at e1 e2
  rw [hy] at e2
  clear h k h0 h1 h2 k0 k1 k2 hx hy
  by_cases x0 : x = 0
  · subst x0
    have HE := Lib.hid (e2 rfl)
    clear e1 e2
    go_enter Try.func17, Try.ntmps17
    go_wp2_with fail
    refine (vpp_yes _ _ _ HV.out).mono ?_; rintro e w1 ⟨rfl, hg⟩
    obtain ⟨hc, hf⟩ := gcell hg
    obtain ⟨hz', hz⟩ : w.heap.size < w1.heap.size ∧ w.heap.size + 1 < w1.heap.size := by have := hg.2.2; simp at this; omega
    go_wp2_with fail
    refine (vpp_yes _ _ _ KV.out).mono ?_; rintro e w2 ⟨rfl, hg2⟩
    have hE : Grown w w2 := (grown_trans (grown_trans (((Grown.refl _).alloc _ _).alloc _ _) hg) hg2)
    obtain ⟨k0, k1, k2, k3⟩ := boxes hg hg2
    clear hc hf hg hg2
    go_wp2_with fail
    refine (def_at _ _ _ _ _ _ HX.out).mono ?_; rintro e w3 ⟨rfl, hg3⟩
    have m0 := kept hg3 k0
    have m1 := kept hg3 k1
    have m2 := kept hg3 k2
    have m3 := kept hg3 k3
    clear k0 k1 k2 k3
    go_wp2_with fail
    refine (def_at _ _ _ _ _ _ HY.out).mono ?_; rintro e w4 ⟨rfl, hg4⟩
    go_wp2_with fail
    refine (inv_at _ _ _ HE.out.symm).mono ?_; rintro e w5 ⟨rfl, rfl⟩
    go_wp2_with fail
    go_ret
    exact ⟨rfl, grown_trans (grown_trans hE hg3) hg4⟩
  · have HE := Lib.hid (e1 x0)
    have n1 : (x != 0) = true := by simp [x0]
    clear e1 e2 HY
    go_enter Try.func17, Try.ntmps17
    go_wp2_with fail
    refine (vpp_yes _ _ _ HV.out).mono ?_; rintro e w1 ⟨rfl, hg⟩
    obtain ⟨hc, hf⟩ := gcell hg
    obtain ⟨hz', hz⟩ : w.heap.size < w1.heap.size ∧ w.heap.size + 1 < w1.heap.size := by have := hg.2.2; simp at this; omega
    go_wp2_with fail
    refine (vpp_yes _ _ _ KV.out).mono ?_; rintro e w2 ⟨rfl, hg2⟩
    have hE : Grown w w2 := (grown_trans (grown_trans (((Grown.refl _).alloc _ _).alloc _ _) hg) hg2)
    obtain ⟨k0, k1, k2, k3⟩ := boxes hg hg2
    clear hc hf hg hg2
    go_wp2_with fail
    refine (def_at _ _ _ _ _ _ HX.out).mono ?_; rintro e w3 ⟨rfl, hg3⟩
    go_wp2_with fail
    go_ret
    exact ⟨ret_int HE.out.symm, grown_trans hE hg3⟩
theorem rel_per (a b c d : Int) (w : World) : Calls Try.prog 17 #[pv a b, pv c d] w fun e w' => e = .returned (.int .i64 (relV a b c d)) ∧ Grown w w' := by
  cases h : okV a b
  · rw [relV_no (Or.inl h)]; exact relp_no _ _ _ _ _ (Or.inl h)
  · cases k : okV c d
    · rw [relV_no (Or.inr k)]; exact relp_no _ _ _ _ _ (Or.inr k)
    · rw [relV_yes h k]; exact relp_yes _ _ _ _ _ h k
theorem rel_ref (a b c d : Int) (w : World) : Calls Try.prog 18 #[pv a b, pv c d] w fun e w' => e = .returned (.int .i64 (relV a b c d)) ∧ Grown w w' := by
  cases h : okV a b
  · rw [relV_no (Or.inl h)]; exact relr_no _ _ _ _ _ (Or.inl h)
  · cases k : okV c d
    · rw [relV_no (Or.inr k)]; exact relr_no _ _ _ _ _ (Or.inr k)
    · rw [relV_yes h k]; exact relr_yes _ _ _ _ _ h k
theorem relp_at (a b c d r : Int) (w : World) (h : relV a b c d = r) : Calls Try.prog 17 #[pv a b, pv c d] w fun e w' => e = .returned (.int .i64 r) ∧ Grown w w' := by
  have := rel_per a b c d w; rwa [h] at this
theorem relr_at (a b c d r : Int) (w : World) (h : relV a b c d = r) : Calls Try.prog 18 #[pv a b, pv c d] w fun e w' => e = .returned (.int .i64 r) ∧ Grown w w' := by
  have := rel_ref a b c d w; rwa [h] at this
end Go.Proofs.Ythendocboifjnaa
