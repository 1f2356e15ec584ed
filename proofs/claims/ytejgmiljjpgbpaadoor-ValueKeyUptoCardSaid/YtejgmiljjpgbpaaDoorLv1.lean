/- The laws ValueRows, ValueParse, ValueRoundTrip, ValueUnique, ValueKey. -/
import Derived.Test.YtejgmiljjpgbpaaDoorAw6
namespace Go.Proofs.YtejgmiljjpgbpaaDoor
open Go.ChangeShapes Go.WideShapes Go.ChangeAt Go.RowKit

theorem cells_of {w : World} {b : Nat} {v : V} (h : Box w b v) : w.cell? ⟨b, 0, none⟩ = some (.int .i64 v.k) ∧ w.cell? ⟨b, 1, none⟩ = some (.int .i64 v.n) ∧ w.cell? ⟨b, 2, none⟩ = some (sv v.s) := ⟨h.c0, h.c1, h.c2⟩
theorem fmt_len (v : V) (h0 : -9223372036854775808 ≤ v.n) (h1 : v.n ≤ 9223372036854775807) : (fmtV v).length ≤ 4000 := by
  unfold fmtV
  split
  · rename_i hv
    split
    · decide
    · split
      · rw [itoa_num]
        have := dec_len20 v.n.natAbs (by omega)
        unfold numS
        split <;> simp <;> omega
      · split
        · split <;> decide
        · have := (dbl_len v.s).2
          unfold vldB at hv
          simp only [decide_eq_true_eq] at hv
          have : v.s.length ≤ 200 := by
            rcases hv with ⟨_, _, e⟩ | ⟨_, e⟩ | ⟨_, _, e⟩ | ⟨_, _, e⟩
            · rw [e]; simp
            · rw [e]; simp
            · exact e
            · rw [e]; simp
          simp; omega
  · simp
set_option maxHeartbeats 2000000 in
set_option maxRecDepth 100000 in
theorem law_ValueRows (a b : List V) (va vb : Value) (w : World) (hG : GE w) (hra : RdV w va a) (hrb : RdV w vb b) : Calls Tryd.prog 5 #[va, vb] w fun e w' => e = .returned (.bool true) ∧ Ext w w' := by
  have HG := Lib.hid hG
  have HA := Lib.hid hra
  have HB := Lib.hid hrb
  obtain ⟨ad, cap, rfl, ha1, ha2, -⟩ := hra
  obtain ⟨bd, bcap, rfl, hb1, hb2, -⟩ := hrb
  have HC1 : ∀ x, Ext w x → Calls Tryd.prog 18 #[.slice ad a.length cap, .slice bd b.length bcap] x fun e w' => e = .returned (.int .i64 (cmpR a b)) ∧ Ext x w' := fun x h => crows_val a b _ _ x (HA.out.ext h) (HB.out.ext h)
  have HC2 : ∀ x, Ext w x → Calls Tryd.prog 19 #[.slice ad a.length cap, .slice bd b.length bcap] x fun e w' => e = .returned (.int .i64 (cmpR a b)) ∧ Ext x w' := fun x h => crows_ref a b _ _ x (HA.out.ext h) (HB.out.ext h)
  have HC3 : ∀ x, Ext w x → Calls Tryd.prog 18 #[.slice bd b.length bcap, .slice ad a.length cap] x fun e w' => e = .returned (.int .i64 (-cmpR a b)) ∧ Ext x w' := fun x h => by rw [← cr_swap]; exact crows_val b a _ _ x (HB.out.ext h) (HA.out.ext h)
  have hv := cr_vals a b
  have hc1 : -1 ≤ cmpR a b := by omega
  have hc2 : cmpR a b ≤ 1 := by omega
  clear hv
  generalize cmpR a b = c at *
  have K1 := Lib.hid HC1
  have K2 := Lib.hid HC2
  have K3 := Lib.hid HC3
  clear HC1 HC2 HC3 hG HA HB
  generalize a.length = n at *
  generalize b.length = m at *
  by_cases hn : 60 < n
  · go_enter Tryd.func5, Tryd.ntmps5
    go_wp2_with fail
    refine (awake_law w HG.out).mono ?_; rintro e w1 ⟨rfl, hE⟩
    go_wp2_with fail
    go_ret
    exact ⟨rfl, hE⟩
  by_cases hm : 60 < m
  · go_enter Tryd.func5, Tryd.ntmps5
    go_wp2_with fail
    refine (awake_law w HG.out).mono ?_; rintro e w1 ⟨rfl, hE⟩
    go_wp2_with fail
    go_ret
    exact ⟨rfl, hE⟩
  go_enter Tryd.func5, Tryd.ntmps5
  go_wp2_with fail
  refine (K1.out w (Ext.refl _)).mono ?_; rintro e w1 ⟨rfl, hE⟩
  go_wp2_with fail
  refine (awake_law w1 (HG.out.ext hE)).mono ?_; rintro e w2 ⟨rfl, hE2⟩
  go_wp2_with fail
  refine (K2.out w2 (hE.trans hE2)).mono ?_; rintro e w3 ⟨rfl, hE3⟩
  go_wp2_with fail
  refine (K3.out w3 ((hE.trans hE2).trans hE3)).mono ?_; rintro e w4 ⟨rfl, hE4⟩
  go_wp2_with fail
  go_ret
  exact ⟨ret_bool (by simp), ((hE.trans hE2).trans hE3).trans hE4⟩
set_option maxHeartbeats 2000000 in
set_option maxRecDepth 100000 in
theorem law_ValueParse (l : List UInt8) (w : World) (hG : GE w) (hl : l.length ≤ maxLen) : Calls Tryd.prog 6 #[sv l] w fun e w' => e = .returned (.bool true) ∧ Ext w w' := by
  have HG := Lib.hid hG
  unfold maxLen at hl
  by_cases hn : 1000 < l.length
  · clear hG
    go_enter Tryd.func6, Tryd.ntmps6
    go_wp2_with fail
    refine (awake_law w HG.out).mono ?_; rintro e w1 ⟨rfl, hE⟩
    go_wp2_with fail
    go_ret
    exact ⟨rfl, hE⟩
  have hp1 := prs_val l w hG (by omega)
  have hp2 : ∀ x, Calls Tryd.prog 21 #[sv l] x fun e w' => e = .returned (.tuple #[vv (prsV l).1, .int .i64 (prsV l).2]) ∧ Ext x w' := fun x => prs_ref l x (by omega)
  generalize prsV l = r at *
  obtain ⟨⟨vk, vn, vs⟩, ve⟩ := r
  simp only at hp1 hp2
  have K1 := Lib.hid hp1
  have K2 := Lib.hid hp2
  clear hp1 hp2 hG
  go_enter Tryd.func6, Tryd.ntmps6
  go_wp2_with fail
  refine K1.out.mono ?_; rintro e x1 ⟨rfl, hE1⟩
  have hB1 := Box.new x1 ⟨vk, vn, vs⟩
  have hF1 := hE1.alloc #[.int .i64 vk, .int .i64 vn, sv vs] 23
  go_wp2_with fail
  refine (K2.out _).mono ?_; rintro e x2 ⟨rfl, hE2⟩
  have hB2 := (hB1.ext hE2).alloc (.cells #[.int .i64 vk, .int .i64 vn, sv vs] 23)
  have hC2 := Box.new x2 ⟨vk, vn, vs⟩
  have hF2 := (hF1.trans hE2).alloc #[.int .i64 vk, .int .i64 vn, sv vs] 23
  go_wp2_with fail
  refine (awake_law _ (HG.out.ext hF2)).mono ?_; rintro e x3 ⟨rfl, hE3⟩
  obtain ⟨a0, a1, a2⟩ := cells_of (hB2.ext hE3)
  obtain ⟨b0, b1, b2⟩ := cells_of (hC2.ext hE3)
  go_wp2_with fail
  go_ret
  exact ⟨ret_bool (by simp), hF2.trans hE3⟩
set_option maxHeartbeats 2000000 in
set_option maxRecDepth 100000 in
theorem law_ValueRoundTrip (v : V) (w : World) (hG : GE w) (h0 : -9223372036854775808 ≤ v.n) (h1 : v.n ≤ 9223372036854775807) : Calls Tryd.prog 7 #[vv v] w fun e w' => e = .returned (.bool true) ∧ Ext w w' := by
  have HG := Lib.hid hG
  have hfl := fmt_len v h0 h1
  cases hv : vldB v
  · have HF := Lib.hid (fun x (h : GE x) => fmt_at v [] x h h0 h1 (by unfold fmtV; rw [hv]; rfl))
    have HV := Lib.hid hv
    clear hv hG hfl
    obtain ⟨k, n, s⟩ := v
    simp only at h0 h1
    have hB0 := Box.new w ⟨k, n, s⟩
    have hF0 := (Ext.refl w).alloc #[.int .i64 k, .int .i64 n, sv s] 23
    go_enter Tryd.func7, Tryd.ntmps7
    go_wp2_with fail
    refine (vlr_no ⟨k, n, s⟩ _ HV.out).mono ?_; rintro e x1 ⟨rfl, hg⟩
    go_wp2_with fail
    refine (awake_law x1 (HG.out.ext (hF0.trans (ext_of_grown hg)))).mono ?_; rintro e x2 ⟨rfl, hE2⟩
    obtain ⟨a0, a1, a2⟩ := cells_of ((hB0.ext (ext_of_grown hg)).ext hE2)
    go_wp2_with fail
    refine (HF.out x2 (HG.out.ext ((hF0.trans (ext_of_grown hg)).trans hE2))).mono ?_; rintro e x3 ⟨rfl, hE3⟩
    go_wp2_with fail
    go_ret
    exact ⟨rfl, ((hF0.trans (ext_of_grown hg)).trans hE2).trans hE3⟩
  · have HV := Lib.hid hv
    have HF := Lib.hid (fun x (h : GE x) => fmt_val v x h h0 h1)
    have HP := Lib.hid (fun x (h : GE x) => prs_at (fmtV v) v 0 x h hfl (prs_fmt v hv h0 h1))
    clear hv hG hfl
    generalize fmtV v = l at *
    obtain ⟨k, n, s⟩ := v
    simp only at h0 h1
    have hB0 := Box.new w ⟨k, n, s⟩
    have hF0 := (Ext.refl w).alloc #[.int .i64 k, .int .i64 n, sv s] 23
    go_enter Tryd.func7, Tryd.ntmps7
    go_wp2_with fail
    refine (vlr_yes ⟨k, n, s⟩ _ HV.out).mono ?_; rintro e x1 ⟨rfl, hg⟩
    have hB1 := hB0.ext (ext_of_grown hg)
    have hF1 := hF0.trans (ext_of_grown hg)
    obtain ⟨a0, a1, a2⟩ := cells_of hB1
    go_wp2_with fail
    refine (HF.out x1 (HG.out.ext hF1)).mono ?_; rintro e x2 ⟨rfl, hE2⟩
    clear a0 a1 a2
    go_wp2_with fail
    refine (HP.out x2 (HG.out.ext (hF1.trans hE2))).mono ?_; rintro e x3 ⟨rfl, hE3⟩
    have hF3 := ((hF1.trans hE2).trans hE3).alloc #[.int .i64 k, .int .i64 n, sv s] 23
    have hB3 := ((hB1.ext hE2).ext hE3).alloc (.cells #[.int .i64 k, .int .i64 n, sv s] 23)
    have hC3 := Box.new x3 ⟨k, n, s⟩
    go_wp2_with fail
    refine (awake_law _ (HG.out.ext hF3)).mono ?_; rintro e x4 ⟨rfl, hE4⟩
    obtain ⟨a0, a1, a2⟩ := cells_of (hB3.ext hE4)
    obtain ⟨b0, b1, b2⟩ := cells_of (hC3.ext hE4)
    go_wp2_with fail
    go_ret
    exact ⟨ret_bool (by simp), hF3.trans hE4⟩
end Go.Proofs.YtejgmiljjpgbpaaDoor
