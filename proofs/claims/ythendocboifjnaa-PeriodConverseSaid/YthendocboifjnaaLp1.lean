/- The walks of the laws PeriodCompose and PeriodConverse: each returns true at every input. -/
import Derived.Test.YthendocboifjnaaCm3
import Derived.Test.YthendocboifjnaaCm5
namespace Go.Proofs.Ythendocboifjnaa
open Go.ChangeShapes Go.WideShapes Go.ChangeAt Go.RowKit

set_option maxHeartbeats 4000000 in
theorem law_PeriodCompose (r s : Int) (w : World) : Calls Try.prog 5 #[.int .i64 r, .int .i64 s] w fun e w' => e = .returned (.bool true) ∧ Ext w w' := by
  go_enter Try.func5, Try.ntmps5
  go_wp2_with fail
  refine (awake_law _).mono ?_; rintro e w1 ⟨rfl, hE1⟩
  go_wp2_with fail
  refine (comp_per _ _ _).mono ?_; rintro e w2 ⟨va, rfl, oa, hE2⟩
  go_wp2_with fail
  refine (comp_ref _ _ _).mono ?_; rintro e w3 ⟨vb, rfl, ob, hE3⟩
  have oa3 := hE3.owns oa
  clear oa
  go_wp2_with fail
  refine (same_ints _ _ _ _ oa3 ob).mono ?_; rintro e w4 ⟨rfl, hg4⟩
  go_wp2_with fail
  go_ret
  exact ⟨rfl, ((hE1.trans hE2).trans hE3).trans (ext_of_grown hg4)⟩

set_option maxHeartbeats 4000000 in
theorem conv_bad (a b c d : Int) (w : World) (h : okV a b = false ∨ okV c d = false) : Calls Try.prog 4 #[pv a b, pv c d] w fun e w' => e = .returned (.bool true) ∧ Ext w w' := by
  have HR := Lib.hid (relV_no h)
  cases h1 : okV a b
  · have HV := Lib.hid h1
    clear h h1
    go_enter Try.func4, Try.ntmps4
    go_wp2_with fail
    refine (relp_at _ _ _ _ _ _ HR.out).mono ?_; rintro e w1 ⟨rfl, hg⟩
    obtain ⟨k0, k1, k2, k3⟩ := boxes hg (Grown.refl _)
    have hE : Ext w w1 := (((Ext.refl _).alloc _ _).alloc _ _).trans (ext_of_grown hg)
    clear hg
    go_wp2_with fail
    refine (vp_no _ _ _ HV.out).mono ?_; rintro e w2 ⟨rfl, hg2⟩
    go_wp2_with fail
    refine (awake_law _).mono ?_; rintro e w3 ⟨rfl, hE3⟩
    go_wp2_with fail
    go_ret
    exact ⟨rfl, (hE.trans (ext_of_grown hg2)).trans hE3⟩
  · have HV := Lib.hid h1
    have KV := Lib.hid (show okV c d = false by rcases h with h | h; · rw [h1] at h; cases h
                                                exact h)
    clear h h1
    go_enter Try.func4, Try.ntmps4
    go_wp2_with fail
    refine (relp_at _ _ _ _ _ _ HR.out).mono ?_; rintro e w1 ⟨rfl, hg⟩
    obtain ⟨k0, k1, k2, k3⟩ := boxes hg (Grown.refl _)
    have hE : Ext w w1 := (((Ext.refl _).alloc _ _).alloc _ _).trans (ext_of_grown hg)
    clear hg
    go_wp2_with fail
    refine (vp_yes _ _ _ HV.out).mono ?_; rintro e w2 ⟨rfl, hg2⟩
    have m2 := kept hg2 k2
    have m3 := kept hg2 k3
    clear k0 k1 k2 k3
    go_wp2_with fail
    refine (vp_no _ _ _ KV.out).mono ?_; rintro e w3 ⟨rfl, hg3⟩
    go_wp2_with fail
    refine (awake_law _).mono ?_; rintro e w4 ⟨rfl, hE4⟩
    go_wp2_with fail
    go_ret
    exact ⟨rfl, ((hE.trans (ext_of_grown hg2)).trans (ext_of_grown hg3)).trans hE4⟩

set_option maxHeartbeats 4000000 in
theorem conv_same (a b : Int) (w : World) (h : okV a b = true) : Calls Try.prog 4 #[pv a b, pv a b] w fun e w' => e = .returned (.bool true) ∧ Ext w w' := by
  obtain ⟨_, h1, _⟩ := (okV_iff a b).1 h
  have HR := Lib.hid ((relV_yes h h).trans ((relF_eq a b a b h1 h1).2 ⟨rfl, rfl⟩))
  have HS := HR
  have HT := Lib.hid (show invF 7 = 7 by decide)
  have HU := HT
  have HV := Lib.hid h
  have KV := HV
  clear h h1
  go_enter Try.func4, Try.ntmps4
  go_wp2_with fail
  refine (relp_at _ _ _ _ _ _ HR.out).mono ?_; rintro e w1 ⟨rfl, hg⟩
  obtain ⟨k0, k1, k2, k3⟩ := boxes hg (Grown.refl _)
  have hE : Ext w w1 := (((Ext.refl _).alloc _ _).alloc _ _).trans (ext_of_grown hg)
  clear hg
  go_wp2_with fail
  refine (vp_yes _ _ _ HV.out).mono ?_; rintro e w2 ⟨rfl, hg2⟩
  have m0 := kept hg2 k0
  have m1 := kept hg2 k1
  have m2 := kept hg2 k2
  have m3 := kept hg2 k3
  have hE2 := hE.trans (ext_of_grown hg2)
  clear k0 k1 k2 k3 hg2 hE
  go_wp2_with fail
  refine (vp_yes _ _ _ KV.out).mono ?_; rintro e w3 ⟨rfl, hg3⟩
  have n0 := kept hg3 m0
  have n1 := kept hg3 m1
  have n2 := kept hg3 m2
  have n3 := kept hg3 m3
  have hE3 := hE2.trans (ext_of_grown hg3)
  clear m0 m1 m2 m3 hg3 hE2
  go_wp2_with fail
  refine (awake_law _).mono ?_; rintro e w4 ⟨rfl, hE4'⟩
  have m0 := hE4'.keeps n0
  have m1 := hE4'.keeps n1
  have m2 := hE4'.keeps n2
  have m3 := hE4'.keeps n3
  have hE4 := hE3.trans hE4'
  clear n0 n1 n2 n3 hE4' hE3
  go_wp2_with fail
  refine (relp_at _ _ _ _ _ _ HS.out).mono ?_; rintro e w5 ⟨rfl, hg5⟩
  have n0 := kept hg5 m0
  have n1 := kept hg5 m1
  have n2 := kept hg5 m2
  have n3 := kept hg5 m3
  have hE5 := hE4.trans (ext_of_grown hg5)
  clear m0 m1 m2 m3 hg5 hE4
  go_wp2_with fail
  refine (inv_at _ _ _ HT.out).mono ?_; rintro e w6 ⟨rfl, rfl⟩
  go_wp2_with fail
  refine (inv_at _ _ _ HT.out).mono ?_; rintro e w6 ⟨rfl, rfl⟩
  go_wp2_with fail
  refine (inv_at _ _ _ HU.out).mono ?_; rintro e w6 ⟨rfl, rfl⟩
  go_wp2_with fail
  go_ret
  exact ⟨rfl, hE5⟩
set_option maxHeartbeats 4000000 in
theorem conv_from (a b c d : Int) (w : World) (h : okV a b = true) (k : okV c d = true) (ne : a ≠ c) : Calls Try.prog 4 #[pv a b, pv c d] w fun e w' => e = .returned (.bool true) ∧ Ext w w' := by
  obtain ⟨_, h1, _⟩ := (okV_iff a b).1 h
  obtain ⟨_, k1, _⟩ := (okV_iff c d).1 k
  have hb := relF_bd a b c d h1 k1
  have he := relF_eq a b c d h1 k1
  have hi := relF_inv a b c d h1 k1
  obtain ⟨x, hx⟩ : ∃ x, relF a b c d = x := ⟨_, rfl⟩
  obtain ⟨y, hy⟩ : ∃ y, 14 - x = y := ⟨_, rfl⟩
  rw [hx] at hb he hi
  obtain ⟨b1, b2⟩ := hb
  obtain ⟨i1, i2⟩ := inv_inv b1 b2
  have HR := Lib.hid ((relV_yes h k).trans hx)
  have HS := Lib.hid ((relV_yes k h).trans (hi.trans hy))
  have HT := Lib.hid (i1.trans hy)
  have HU := Lib.hid (show invF y = x by rw [i1, hy] at i2; exact i2)
  have HV := Lib.hid h
  have KV := Lib.hid k
  have t1 : (x == 7) = false := beq_eq_false_iff_ne.2 (fun e => by have := he.1 e; omega)
  have t2 : (a == c) = false := beq_eq_false_iff_ne.2 ne
  clear h k h1 k1 he hi hx hy i1 i2 ne
  go_enter Try.func4, Try.ntmps4
  go_wp2_with fail
  refine (relp_at _ _ _ _ _ _ HR.out).mono ?_; rintro e w1 ⟨rfl, hg⟩
  obtain ⟨k0, k1, k2, k3⟩ := boxes hg (Grown.refl _)
  have hE : Ext w w1 := (((Ext.refl _).alloc _ _).alloc _ _).trans (ext_of_grown hg)
  clear hg
  go_wp2_with fail
  refine (vp_yes _ _ _ HV.out).mono ?_; rintro e w2 ⟨rfl, hg2⟩
  have m0 := kept hg2 k0
  have m1 := kept hg2 k1
  have m2 := kept hg2 k2
  have m3 := kept hg2 k3
  have hE2 := hE.trans (ext_of_grown hg2)
  clear k0 k1 k2 k3 hg2 hE
  go_wp2_with fail
  refine (vp_yes _ _ _ KV.out).mono ?_; rintro e w3 ⟨rfl, hg3⟩
  have n0 := kept hg3 m0
  have n1 := kept hg3 m1
  have n2 := kept hg3 m2
  have n3 := kept hg3 m3
  have hE3 := hE2.trans (ext_of_grown hg3)
  clear m0 m1 m2 m3 hg3 hE2
  go_wp2_with fail
  refine (awake_law _).mono ?_; rintro e w4 ⟨rfl, hE4'⟩
  have m0 := hE4'.keeps n0
  have m1 := hE4'.keeps n1
  have m2 := hE4'.keeps n2
  have m3 := hE4'.keeps n3
  have hE4 := hE3.trans hE4'
  clear n0 n1 n2 n3 hE4' hE3
  go_wp2_with fail
  refine (relp_at _ _ _ _ _ _ HS.out).mono ?_; rintro e w5 ⟨rfl, hg5⟩
  have n0 := kept hg5 m0
  have n1 := kept hg5 m1
  have n2 := kept hg5 m2
  have n3 := kept hg5 m3
  have hE5 := hE4.trans (ext_of_grown hg5)
  clear m0 m1 m2 m3 hg5 hE4
  go_wp2_with fail
  refine (inv_at _ _ _ HT.out).mono ?_; rintro e w6 ⟨rfl, rfl⟩
  go_wp2_with fail
  refine (inv_at _ _ _ HT.out).mono ?_; rintro e w6 ⟨rfl, rfl⟩
  go_wp2_with fail
  refine (inv_at _ _ _ HU.out).mono ?_; rintro e w6 ⟨rfl, rfl⟩
  go_wp2_with fail
  go_ret
  exact ⟨rfl, hE5⟩
set_option maxHeartbeats 4000000 in
theorem conv_to (a b c d : Int) (w : World) (h : okV a b = true) (k : okV c d = true) (ne : b ≠ d) (e : a = c) : Calls Try.prog 4 #[pv a b, pv c d] w fun e w' => e = .returned (.bool true) ∧ Ext w w' := by
  obtain ⟨_, h1, _⟩ := (okV_iff a b).1 h
  obtain ⟨_, k1, _⟩ := (okV_iff c d).1 k
  have hb := relF_bd a b c d h1 k1
  have he := relF_eq a b c d h1 k1
  have hi := relF_inv a b c d h1 k1
  obtain ⟨x, hx⟩ : ∃ x, relF a b c d = x := ⟨_, rfl⟩
  obtain ⟨y, hy⟩ : ∃ y, 14 - x = y := ⟨_, rfl⟩
  rw [hx] at hb he hi
  obtain ⟨b1, b2⟩ := hb
  obtain ⟨i1, i2⟩ := inv_inv b1 b2
  have HR := Lib.hid ((relV_yes h k).trans hx)
  have HS := Lib.hid ((relV_yes k h).trans (hi.trans hy))
  have HT := Lib.hid (i1.trans hy)
  have HU := Lib.hid (show invF y = x by rw [i1, hy] at i2; exact i2)
  have HV := Lib.hid h
  have KV := Lib.hid k
  have t1 : (x == 7) = false := beq_eq_false_iff_ne.2 (fun e => by have := he.1 e; omega)
  have t2 : (b == d) = false := beq_eq_false_iff_ne.2 ne
  subst e
  clear h k h1 k1 he hi hx hy i1 i2 ne
  go_enter Try.func4, Try.ntmps4
  go_wp2_with fail
  refine (relp_at _ _ _ _ _ _ HR.out).mono ?_; rintro e w1 ⟨rfl, hg⟩
  obtain ⟨k0, k1, k2, k3⟩ := boxes hg (Grown.refl _)
  have hE : Ext w w1 := (((Ext.refl _).alloc _ _).alloc _ _).trans (ext_of_grown hg)
  clear hg
  go_wp2_with fail
  refine (vp_yes _ _ _ HV.out).mono ?_; rintro e w2 ⟨rfl, hg2⟩
  have m0 := kept hg2 k0
  have m1 := kept hg2 k1
  have m2 := kept hg2 k2
  have m3 := kept hg2 k3
  have hE2 := hE.trans (ext_of_grown hg2)
  clear k0 k1 k2 k3 hg2 hE
  go_wp2_with fail
  refine (vp_yes _ _ _ KV.out).mono ?_; rintro e w3 ⟨rfl, hg3⟩
  have n0 := kept hg3 m0
  have n1 := kept hg3 m1
  have n2 := kept hg3 m2
  have n3 := kept hg3 m3
  have hE3 := hE2.trans (ext_of_grown hg3)
  clear m0 m1 m2 m3 hg3 hE2
  go_wp2_with fail
  refine (awake_law _).mono ?_; rintro e w4 ⟨rfl, hE4'⟩
  have m0 := hE4'.keeps n0
  have m1 := hE4'.keeps n1
  have m2 := hE4'.keeps n2
  have m3 := hE4'.keeps n3
  have hE4 := hE3.trans hE4'
  clear n0 n1 n2 n3 hE4' hE3
  go_wp2_with fail
  refine (relp_at _ _ _ _ _ _ HS.out).mono ?_; rintro e w5 ⟨rfl, hg5⟩
  have n0 := kept hg5 m0
  have n1 := kept hg5 m1
  have n2 := kept hg5 m2
  have n3 := kept hg5 m3
  have hE5 := hE4.trans (ext_of_grown hg5)
  clear m0 m1 m2 m3 hg5 hE4
  go_wp2_with fail
  refine (inv_at _ _ _ HT.out).mono ?_; rintro e w6 ⟨rfl, rfl⟩
  go_wp2_with fail
  refine (inv_at _ _ _ HT.out).mono ?_; rintro e w6 ⟨rfl, rfl⟩
  go_wp2_with fail
  refine (inv_at _ _ _ HU.out).mono ?_; rintro e w6 ⟨rfl, rfl⟩
  go_wp2_with fail
  go_ret
  exact ⟨rfl, hE5⟩
theorem law_PeriodConverse (a b c d : Int) (w : World) : Calls Try.prog 4 #[pv a b, pv c d] w fun e w' => e = .returned (.bool true) ∧ Ext w w' := by
  by_cases hh : okV a b = true ∧ okV c d = true
  · obtain ⟨h, k⟩ := hh
    by_cases ea : a = c
    · subst ea
      by_cases eb : b = d
      · subst eb; exact conv_same a b w h
      · exact conv_to a b a d w h k eb rfl
    · exact conv_from a b c d w h k ea
  · refine conv_bad a b c d w ?_
    cases h1 : okV a b
    · exact Or.inl rfl
    · cases h2 : okV c d
      · exact Or.inr rfl
      · exact absurd ⟨h1, h2⟩ hh
end Go.Proofs.Ythendocboifjnaa
