/- The laws' Predicate: a constant. -/
import Derived.BigQuiet
import Derived.Test.YtbplapkcleipiaaGreatDoorZq2
namespace Go.Proofs.YtbplapkcleipiaaGreatDoor
open Go.ChangeShapes Go.WideShapes Go.ChangeAt Go.RowKit

set_option maxHeartbeats 8000000 in
set_option maxRecDepth 100000 in
theorem prd_col (es : List X) (ks : List Int) (a0 a1 a2 a3 : Nat) (v : Value) (ka : Option Addr) (kc : Nat) (W w : World) (hO : OwnG tX.e W w v es) (hk : RdG w (.slice ka ks.length kc) ks) (hoff : Off tX.e W w (.slice ka ks.length kc)) (hn0 : 0 < ks.length) (hn : ks.length ≤ 1000) (hel : es.length ≤ 1000) (b0 : a0 ≤ 65535) (b1 : a1 ≤ 65535) (b2 : a2 ≤ 65535) (b3 : a3 ≤ 65535) (h5 : ¬ a2 % 5 = 0) (h3 : a2 % 5 < 3) (hy : atI ks ((a0 % ks.length : Nat) : Int) = atI ks ((a1 % ks.length : Nat) : Int)) :
    Calls Tryz.prog 20 #[v, .slice ka ks.length kc, .agg #[.int .u16 a0, .int .u16 a1, .int .u16 a2, .int .u16 a3]] w (PrdP W w v es (prdX es.length ks a0 a1 a2 a3)) := by
  obtain ⟨va, vc, rfl, v1, v2⟩ := hO.rd.shape
  have HI := Lib.hid (fun w => pick_prg a0 ks.length w (by omega) hn0 (by omega))
  have HK := Lib.hid (fun w => pick_prg a1 ks.length w (by omega) hn0 (by omega))
  have HQ := Lib.hid (show prdX es.length ks a0 a1 a2 a3 = if a3 % 4 = 0 then [⟨2, 0, 0, ((a0 % ks.length : Nat) : Int), nul⟩, ⟨2, 0, 0, ((a1 % ks.length : Nat) : Int), nul⟩, ⟨if a2 % 2 = 0 then 7 else 6, es.length, es.length + 1, 0, nul⟩, ⟨10, es.length + 2, 0, 0, nul⟩] else [⟨2, 0, 0, ((a0 % ks.length : Nat) : Int), nul⟩, ⟨2, 0, 0, ((a1 % ks.length : Nat) : Int), nul⟩, ⟨if a2 % 2 = 0 then 7 else 6, es.length, es.length + 1, 0, nul⟩] by
    have e : prdS ks a0 a1 a2 a3 = ⟨2, 0, 0, ((a1 % ks.length : Nat) : Int), nul⟩ := by unfold prdS; exact if_pos ⟨hy, h3⟩
    unfold prdX; rw [if_neg h5, e])
  obtain ⟨i, hi⟩ : ∃ i, i = a0 % ks.length := ⟨_, rfl⟩
  obtain ⟨k, hk2⟩ : ∃ k, k = a1 % ks.length := ⟨_, rfl⟩
  have hin : i < ks.length := by rw [hi]; exact Nat.mod_lt _ hn0
  have hkn : k < ks.length := by rw [hk2]; exact Nat.mod_lt _ hn0
  rw [← hi] at HI HQ hy
  rw [← hk2] at HK hy
  try rw [← hk2] at HQ
  obtain ⟨kg, ko, rfl, _⟩ := rd_I hk i hin
  obtain ⟨y0, hy0⟩ : ∃ y, y = atI ks (i : Int) := ⟨_, rfl⟩
  obtain ⟨y1, hy1⟩ : ∃ y, y = atI ks (k : Int) := ⟨_, rfl⟩
  have HC0 := Lib.hid (fun (w1 : World) (h : RdG w1 (.slice (some ⟨kg, ko, none⟩) ks.length kc) ks) => show w1.cell? ⟨kg, ko + i, none⟩ = some (.int .i64 y0) by
    obtain ⟨_, _, e, c⟩ := rd_I h i hin
    cases e
    rw [c, hy0, show atI ks (i : Int) = ks[i] by simp [atI, List.getD, hin]])
  have HC1 := Lib.hid (fun (w1 : World) (h : RdG w1 (.slice (some ⟨kg, ko, none⟩) ks.length kc) ks) => show w1.cell? ⟨kg, ko + k, none⟩ = some (.int .i64 y1) by
    obtain ⟨_, _, e, c⟩ := rd_I h k hkn
    cases e
    rw [c, hy1, show atI ks (k : Int) = ks[k] by simp [atI, List.getD, hkn]])
  rw [← hy0] at hy
  rw [← hy1] at hy
  try rw [← hy0] at HQ
  have hw0 := wrapI (a0 : Int) (by omega) (by omega)
  have hw1 := wrapI (a1 : Int) (by omega) (by omega)
  obtain ⟨w0, hw0'⟩ : ∃ w0, w0 = w.alloc (.cells #[.int .u16 a0, .int .u16 a1, .int .u16 a2, .int .u16 a3] 40) := ⟨_, rfl⟩
  have H0 := Lib.hid (show PS W w (.slice va es.length vc) w.heap.size [.int .u16 a0, .int .u16 a1, .int .u16 a2, .int .u16 a3] (.slice (some ⟨kg, ko, none⟩) ks.length kc) ks w0 (.slice va es.length vc) es by
    have hE : Ext w w0 := by rw [hw0']; exact (Ext.refl _).alloc _ _
    exact ⟨hO.ext hE, by rw [hw0']; exact Bxn.new w _ _, fun g hg => by have := hO.lt g hg; omega, hk.ext hE, hoff.ext hE, grw_ext hE _, Loc.refl _ _⟩)
  have K0 := Lib.hid (H0.out.box.2 0 _ rfl).1
  have K1 := Lib.hid (H0.out.box.2 1 _ rfl).1
  have HW0 := Lib.hid hw0'
  obtain ⟨m, hm⟩ : ∃ m, m = es.length := ⟨_, rfl⟩
  obtain ⟨n, hn'⟩ : ∃ n, n = ks.length := ⟨_, rfl⟩
  have HM := Lib.hid hm
  have HNN := Lib.hid hn'
  rw [← hm] at H0 HQ hel ⊢
  rw [← hn'] at H0 HI HK HC0 HC1 hin hkn ⊢
  obtain ⟨z, hz⟩ : ∃ z, z = a2 % 5 := ⟨_, rfl⟩
  obtain ⟨z4, hz4⟩ : ∃ z, z = a3 % 4 := ⟨_, rfl⟩
  have hzb : z < 5 := by omega
  have hz4b : z4 < 4 := by omega
  have t5 : Int.tmod (a2 : Int) 5 = (z : Int) := by rw [Int.tmod_eq_emod_of_nonneg (by omega)]; omega
  have t5' : (a2 : Int) % 5 = (z : Int) := by omega
  have wz : IntKind.u16.wrap (z : Int) = (z : Int) := by simp only [IntKind.wrap, IntKind.bits, IntKind.signed]; simp; omega
  have hz0 : ¬ (z : Int) = 0 := by omega
  have hz0' : ((z : Int) == 0) = false := by simp; omega
  have hz3 : (z : Int) < 3 := by omega
  subst hy
  have T4 := Lib.hid (show Int.tmod (a3 : Int) 4 = (z4 : Int) ∧ (a3 : Int) % 4 = (z4 : Int) ∧ IntKind.u16.wrap (z4 : Int) = (z4 : Int) from ⟨by rw [Int.tmod_eq_emod_of_nonneg (by omega)]; omega, by omega, by simp only [IntKind.wrap, IntKind.bits, IntKind.signed]; simp; omega⟩)
  have T2 := Lib.hid (show (a2 % 2 = 0 → Int.tmod (a2 : Int) 2 = 0 ∧ (a2 : Int) % 2 = 0) ∧ (¬ a2 % 2 = 0 → Int.tmod (a2 : Int) 2 = 1 ∧ (a2 : Int) % 2 = 1) from ⟨fun h => ⟨by rw [Int.tmod_eq_emod_of_nonneg (by omega)]; omega, by omega⟩, fun h => ⟨by rw [Int.tmod_eq_emod_of_nonneg (by omega)]; omega, by omega⟩⟩)
  have HZ4 := Lib.hid hz4
  have hi0 : (0 : Int) ≤ (i : Int) := by omega
  have hi1 : (i : Int) < (n : Int) := by omega
  have hk0 : (0 : Int) ≤ (k : Int) := by omega
  have hk1 : (k : Int) < (n : Int) := by omega
  unfold maxLen at v2
  clear hO hk hoff hn0 hn b0 b1 b2 b3 hi hk2 hw0' hm v1 hin hkn hn' hz hz4 hzb hz4b h5 h3 hy0 hy1
  go_enter Tryz.func20, Tryz.ntmps20
  go_wp2_with fail
  rw [← HW0.out]
  go_region_held3 (fun w' => w'.cell? ⟨w.heap.size, 0, none⟩ = some (.int .u16 a0) ∧ w'.cell? ⟨w.heap.size, 1, none⟩ = some (.int .u16 a1)) (first | exact ⟨K0.out, K1.out⟩ | go_keep)
    (first
      | (go_at_call 32; have mk2 := mk1; refine (HK.out _).mono ?_; rintro e y2 ⟨rfl, rfl⟩)
      | (go_at_call 32; refine (HI.out _).mono ?_; rintro e y1 ⟨rfl, rfl⟩; have mk1 : True := trivial))
  all_goals
    have h1 := Lib.hid (H0.out.ext (Ext.refl w0).drew)
    generalize w0.drew = x1 at h1 ⊢
    have H1 := h1
    clear K0 K1 H0 HW0 HI HK h1
    have q1 : (m : Int) + 1 - 1 = (m : Int) := by omega
    have q2 : ((m + 1 : Nat) : Int) - 1 = (m : Int) := by omega
    have q3 : ((m + 2 : Nat) : Int) - 1 = (m : Int) + 1 := by omega
    have q4 : ((m + 3 : Nat) : Int) - 1 = (m : Int) + 2 := by omega
    have q5 : ((m + 4 : Nat) : Int) - 1 = (m : Int) + 3 := by omega
    have q3' : (m : Int) + 2 - 1 = (m : Int) + 1 := by omega
    have q4' : (m : Int) + 3 - 1 = (m : Int) + 2 := by omega
    have q5' : (m : Int) + 4 - 1 = (m : Int) + 3 := by omega
    go_wp2_with (first
      | (at_builtin; refine appGL tX rfl _ _ rfl W _ _ rfl (H1.out.ext ((Ext.refl x1).alloc #[.int .i64 2, .int .i64 0, .int .i64 0, .int .i64 (i : Int), .int .i64 0, .int .i64 0, sv []] 64)).own _ [⟨2, 0, 0, (i : Int), nul⟩] rfl (rd_litG x1 ([⟨2, 0, 0, (i : Int), nul⟩] : List X) #[.int .i64 2, .int .i64 0, .int .i64 0, .int .i64 (i : Int), .int .i64 0, .int .i64 0, sv []] 64 _ 1 rfl rfl (by simp) rfl) (by have := HM.out; simp; omega) ?_; intro v2 x2 hO2 hg2 hl2; have H2 := Lib.hid ((H1.out.ext ((Ext.refl x1).alloc #[.int .i64 2, .int .i64 0, .int .i64 0, .int .i64 (i : Int), .int .i64 0, .int .i64 0, sv []] 64)).app hO2 hg2 hl2); obtain ⟨d2, p2, rfl⟩ := sl_len hO2 (m + 1) (by have := HM.out; simp; omega); have b22 := (H2.out.box.2 2 _ rfl).1; have b23 := (H2.out.box.2 3 _ rfl).1; have q2i := HC0.out x2 H2.out.kd; have q2k := HC1.out x2 H2.out.kd; have s2 : w.heap.size < x2.heap.size := H2.out.box.1))
    go_quiet (fail)
    by_cases h2 : a2 % 2 = 0
    · obtain ⟨t2, t2'⟩ := T2.out.1 h2
      obtain ⟨t4, t4', w4⟩ := T4.out
      by_cases h4 : a3 % 4 = 0
      · have hz4 : (z4 : Int) = 0 := by have := HZ4.out; omega
        rw [hz4] at t4 t4'
        clear w4 hz4
        go_wp2_with (first
          | (at_builtin; refine appGL tX rfl _ _ rfl W _ _ rfl (H2.out.ext (((Ext.refl x2).drewN9 _).alloc #[.int .i64 2, .int .i64 0, .int .i64 0, .int .i64 (k : Int), .int .i64 0, .int .i64 0, sv []] 64)).own _ [⟨2, 0, 0, (k : Int), nul⟩] rfl (rd_litG (World.drewN x2 _) ([⟨2, 0, 0, (k : Int), nul⟩] : List X) #[.int .i64 2, .int .i64 0, .int .i64 0, .int .i64 (k : Int), .int .i64 0, .int .i64 0, sv []] 64 _ 1 rfl rfl (by simp) rfl) (by have := HM.out; simp; omega) ?_; intro v3 x3 hO3 hg3 hl3; have H3 := Lib.hid ((H2.out.ext (((Ext.refl x2).drewN9 _).alloc #[.int .i64 2, .int .i64 0, .int .i64 0, .int .i64 (k : Int), .int .i64 0, .int .i64 0, sv []] 64)).app hO3 hg3 hl3); obtain ⟨d3, p3, rfl⟩ := sl_len hO3 (m + 2) (by have := HM.out; simp; omega); have b32 := (H3.out.box.2 2 _ rfl).1; have b33 := (H3.out.box.2 3 _ rfl).1; have q3i := HC0.out x3 H3.out.kd; have q3k := HC1.out x3 H3.out.kd; have s3 : w.heap.size < x3.heap.size := H3.out.box.1)
          | (at_builtin; refine appGL tX rfl _ _ rfl W _ _ rfl (H3.out.ext ((Ext.refl x3).alloc #[.int .i64 7, .int .i64 m, .int .i64 ((m : Int) + 1), .int .i64 0, .int .i64 0, .int .i64 0, sv []] 64)).own _ [⟨7, m, ((m : Int) + 1), 0, nul⟩] rfl (rd_litG x3 ([⟨7, m, ((m : Int) + 1), 0, nul⟩] : List X) #[.int .i64 7, .int .i64 m, .int .i64 ((m : Int) + 1), .int .i64 0, .int .i64 0, .int .i64 0, sv []] 64 _ 1 rfl rfl (by simp) rfl) (by have := HM.out; simp; omega) ?_; intro v4 x4 hO4 hg4 hl4; have H4 := Lib.hid ((H3.out.ext ((Ext.refl x3).alloc #[.int .i64 7, .int .i64 m, .int .i64 ((m : Int) + 1), .int .i64 0, .int .i64 0, .int .i64 0, sv []] 64)).app hO4 hg4 hl4); obtain ⟨d4, p4, rfl⟩ := sl_len hO4 (m + 3) (by have := HM.out; simp; omega); have b42 := (H4.out.box.2 2 _ rfl).1; have b43 := (H4.out.box.2 3 _ rfl).1; have q4i := HC0.out x4 H4.out.kd; have q4k := HC1.out x4 H4.out.kd; have s4 : w.heap.size < x4.heap.size := H4.out.box.1)
          | (at_builtin; refine appGL tX rfl _ _ rfl W _ _ rfl (H4.out.ext ((Ext.refl x4).alloc #[.int .i64 10, .int .i64 ((m : Int) + 2), .int .i64 0, .int .i64 0, .int .i64 0, .int .i64 0, sv []] 64)).own _ [⟨10, ((m : Int) + 2), 0, 0, nul⟩] rfl (rd_litG x4 ([⟨10, ((m : Int) + 2), 0, 0, nul⟩] : List X) #[.int .i64 10, .int .i64 ((m : Int) + 2), .int .i64 0, .int .i64 0, .int .i64 0, .int .i64 0, sv []] 64 _ 1 rfl rfl (by simp) rfl) (by have := HM.out; simp; omega) ?_; intro v5 x5 hO5 hg5 hl5; have H5 := Lib.hid ((H4.out.ext ((Ext.refl x4).alloc #[.int .i64 10, .int .i64 ((m : Int) + 2), .int .i64 0, .int .i64 0, .int .i64 0, .int .i64 0, sv []] 64)).app hO5 hg5 hl5); obtain ⟨d5, p5, rfl⟩ := sl_len hO5 (m + 4) (by have := HM.out; simp; omega); have b52 := (H5.out.box.2 2 _ rfl).1; have b53 := (H5.out.box.2 3 _ rfl).1; have q5i := HC0.out x5 H5.out.kd; have q5k := HC1.out x5 H5.out.kd; have s5 : w.heap.size < x5.heap.size := H5.out.box.1))
        go_ret2
        exact H5.out.out (by rw [HQ.out]; simp [h2, h4]) (by rw [HQ.out]; have := HM.out; simp [h2, h4]; omega)
      · have hz4 : ¬ (z4 : Int) = 0 := by have := HZ4.out; omega
        have hz4' : ((z4 : Int) == 0) = false := by simpa using hz4
        go_wp2_with (first
          | (at_builtin; refine appGL tX rfl _ _ rfl W _ _ rfl (H2.out.ext (((Ext.refl x2).drewN9 _).alloc #[.int .i64 2, .int .i64 0, .int .i64 0, .int .i64 (k : Int), .int .i64 0, .int .i64 0, sv []] 64)).own _ [⟨2, 0, 0, (k : Int), nul⟩] rfl (rd_litG (World.drewN x2 _) ([⟨2, 0, 0, (k : Int), nul⟩] : List X) #[.int .i64 2, .int .i64 0, .int .i64 0, .int .i64 (k : Int), .int .i64 0, .int .i64 0, sv []] 64 _ 1 rfl rfl (by simp) rfl) (by have := HM.out; simp; omega) ?_; intro v3 x3 hO3 hg3 hl3; have H3 := Lib.hid ((H2.out.ext (((Ext.refl x2).drewN9 _).alloc #[.int .i64 2, .int .i64 0, .int .i64 0, .int .i64 (k : Int), .int .i64 0, .int .i64 0, sv []] 64)).app hO3 hg3 hl3); obtain ⟨d3, p3, rfl⟩ := sl_len hO3 (m + 2) (by have := HM.out; simp; omega); have b32 := (H3.out.box.2 2 _ rfl).1; have b33 := (H3.out.box.2 3 _ rfl).1; have q3i := HC0.out x3 H3.out.kd; have q3k := HC1.out x3 H3.out.kd; have s3 : w.heap.size < x3.heap.size := H3.out.box.1)
          | (at_builtin; refine appGL tX rfl _ _ rfl W _ _ rfl (H3.out.ext ((Ext.refl x3).alloc #[.int .i64 7, .int .i64 m, .int .i64 ((m : Int) + 1), .int .i64 0, .int .i64 0, .int .i64 0, sv []] 64)).own _ [⟨7, m, ((m : Int) + 1), 0, nul⟩] rfl (rd_litG x3 ([⟨7, m, ((m : Int) + 1), 0, nul⟩] : List X) #[.int .i64 7, .int .i64 m, .int .i64 ((m : Int) + 1), .int .i64 0, .int .i64 0, .int .i64 0, sv []] 64 _ 1 rfl rfl (by simp) rfl) (by have := HM.out; simp; omega) ?_; intro v4 x4 hO4 hg4 hl4; have H4 := Lib.hid ((H3.out.ext ((Ext.refl x3).alloc #[.int .i64 7, .int .i64 m, .int .i64 ((m : Int) + 1), .int .i64 0, .int .i64 0, .int .i64 0, sv []] 64)).app hO4 hg4 hl4); obtain ⟨d4, p4, rfl⟩ := sl_len hO4 (m + 3) (by have := HM.out; simp; omega); have b42 := (H4.out.box.2 2 _ rfl).1; have b43 := (H4.out.box.2 3 _ rfl).1; have q4i := HC0.out x4 H4.out.kd; have q4k := HC1.out x4 H4.out.kd; have s4 : w.heap.size < x4.heap.size := H4.out.box.1))
        go_ret2
        exact H4.out.out (by rw [HQ.out]; simp [h2, h4]) (by rw [HQ.out]; have := HM.out; simp [h2, h4]; omega)
    · obtain ⟨t2, t2'⟩ := T2.out.2 h2
      obtain ⟨t4, t4', w4⟩ := T4.out
      by_cases h4 : a3 % 4 = 0
      · have hz4 : (z4 : Int) = 0 := by have := HZ4.out; omega
        rw [hz4] at t4 t4'
        clear w4 hz4
        go_wp2_with (first
          | (at_builtin; refine appGL tX rfl _ _ rfl W _ _ rfl (H2.out.ext (((Ext.refl x2).drewN9 _).alloc #[.int .i64 2, .int .i64 0, .int .i64 0, .int .i64 (k : Int), .int .i64 0, .int .i64 0, sv []] 64)).own _ [⟨2, 0, 0, (k : Int), nul⟩] rfl (rd_litG (World.drewN x2 _) ([⟨2, 0, 0, (k : Int), nul⟩] : List X) #[.int .i64 2, .int .i64 0, .int .i64 0, .int .i64 (k : Int), .int .i64 0, .int .i64 0, sv []] 64 _ 1 rfl rfl (by simp) rfl) (by have := HM.out; simp; omega) ?_; intro v3 x3 hO3 hg3 hl3; have H3 := Lib.hid ((H2.out.ext (((Ext.refl x2).drewN9 _).alloc #[.int .i64 2, .int .i64 0, .int .i64 0, .int .i64 (k : Int), .int .i64 0, .int .i64 0, sv []] 64)).app hO3 hg3 hl3); obtain ⟨d3, p3, rfl⟩ := sl_len hO3 (m + 2) (by have := HM.out; simp; omega); have b32 := (H3.out.box.2 2 _ rfl).1; have b33 := (H3.out.box.2 3 _ rfl).1; have q3i := HC0.out x3 H3.out.kd; have q3k := HC1.out x3 H3.out.kd; have s3 : w.heap.size < x3.heap.size := H3.out.box.1)
          | (at_builtin; refine appGL tX rfl _ _ rfl W _ _ rfl (H3.out.ext ((Ext.refl x3).alloc #[.int .i64 6, .int .i64 m, .int .i64 ((m : Int) + 1), .int .i64 0, .int .i64 0, .int .i64 0, sv []] 64)).own _ [⟨6, m, ((m : Int) + 1), 0, nul⟩] rfl (rd_litG x3 ([⟨6, m, ((m : Int) + 1), 0, nul⟩] : List X) #[.int .i64 6, .int .i64 m, .int .i64 ((m : Int) + 1), .int .i64 0, .int .i64 0, .int .i64 0, sv []] 64 _ 1 rfl rfl (by simp) rfl) (by have := HM.out; simp; omega) ?_; intro v4 x4 hO4 hg4 hl4; have H4 := Lib.hid ((H3.out.ext ((Ext.refl x3).alloc #[.int .i64 6, .int .i64 m, .int .i64 ((m : Int) + 1), .int .i64 0, .int .i64 0, .int .i64 0, sv []] 64)).app hO4 hg4 hl4); obtain ⟨d4, p4, rfl⟩ := sl_len hO4 (m + 3) (by have := HM.out; simp; omega); have b42 := (H4.out.box.2 2 _ rfl).1; have b43 := (H4.out.box.2 3 _ rfl).1; have q4i := HC0.out x4 H4.out.kd; have q4k := HC1.out x4 H4.out.kd; have s4 : w.heap.size < x4.heap.size := H4.out.box.1)
          | (at_builtin; refine appGL tX rfl _ _ rfl W _ _ rfl (H4.out.ext ((Ext.refl x4).alloc #[.int .i64 10, .int .i64 ((m : Int) + 2), .int .i64 0, .int .i64 0, .int .i64 0, .int .i64 0, sv []] 64)).own _ [⟨10, ((m : Int) + 2), 0, 0, nul⟩] rfl (rd_litG x4 ([⟨10, ((m : Int) + 2), 0, 0, nul⟩] : List X) #[.int .i64 10, .int .i64 ((m : Int) + 2), .int .i64 0, .int .i64 0, .int .i64 0, .int .i64 0, sv []] 64 _ 1 rfl rfl (by simp) rfl) (by have := HM.out; simp; omega) ?_; intro v5 x5 hO5 hg5 hl5; have H5 := Lib.hid ((H4.out.ext ((Ext.refl x4).alloc #[.int .i64 10, .int .i64 ((m : Int) + 2), .int .i64 0, .int .i64 0, .int .i64 0, .int .i64 0, sv []] 64)).app hO5 hg5 hl5); obtain ⟨d5, p5, rfl⟩ := sl_len hO5 (m + 4) (by have := HM.out; simp; omega); have b52 := (H5.out.box.2 2 _ rfl).1; have b53 := (H5.out.box.2 3 _ rfl).1; have q5i := HC0.out x5 H5.out.kd; have q5k := HC1.out x5 H5.out.kd; have s5 : w.heap.size < x5.heap.size := H5.out.box.1))
        go_ret2
        exact H5.out.out (by rw [HQ.out]; simp [h2, h4]) (by rw [HQ.out]; have := HM.out; simp [h2, h4]; omega)
      · have hz4 : ¬ (z4 : Int) = 0 := by have := HZ4.out; omega
        have hz4' : ((z4 : Int) == 0) = false := by simpa using hz4
        go_wp2_with (first
          | (at_builtin; refine appGL tX rfl _ _ rfl W _ _ rfl (H2.out.ext (((Ext.refl x2).drewN9 _).alloc #[.int .i64 2, .int .i64 0, .int .i64 0, .int .i64 (k : Int), .int .i64 0, .int .i64 0, sv []] 64)).own _ [⟨2, 0, 0, (k : Int), nul⟩] rfl (rd_litG (World.drewN x2 _) ([⟨2, 0, 0, (k : Int), nul⟩] : List X) #[.int .i64 2, .int .i64 0, .int .i64 0, .int .i64 (k : Int), .int .i64 0, .int .i64 0, sv []] 64 _ 1 rfl rfl (by simp) rfl) (by have := HM.out; simp; omega) ?_; intro v3 x3 hO3 hg3 hl3; have H3 := Lib.hid ((H2.out.ext (((Ext.refl x2).drewN9 _).alloc #[.int .i64 2, .int .i64 0, .int .i64 0, .int .i64 (k : Int), .int .i64 0, .int .i64 0, sv []] 64)).app hO3 hg3 hl3); obtain ⟨d3, p3, rfl⟩ := sl_len hO3 (m + 2) (by have := HM.out; simp; omega); have b32 := (H3.out.box.2 2 _ rfl).1; have b33 := (H3.out.box.2 3 _ rfl).1; have q3i := HC0.out x3 H3.out.kd; have q3k := HC1.out x3 H3.out.kd; have s3 : w.heap.size < x3.heap.size := H3.out.box.1)
          | (at_builtin; refine appGL tX rfl _ _ rfl W _ _ rfl (H3.out.ext ((Ext.refl x3).alloc #[.int .i64 6, .int .i64 m, .int .i64 ((m : Int) + 1), .int .i64 0, .int .i64 0, .int .i64 0, sv []] 64)).own _ [⟨6, m, ((m : Int) + 1), 0, nul⟩] rfl (rd_litG x3 ([⟨6, m, ((m : Int) + 1), 0, nul⟩] : List X) #[.int .i64 6, .int .i64 m, .int .i64 ((m : Int) + 1), .int .i64 0, .int .i64 0, .int .i64 0, sv []] 64 _ 1 rfl rfl (by simp) rfl) (by have := HM.out; simp; omega) ?_; intro v4 x4 hO4 hg4 hl4; have H4 := Lib.hid ((H3.out.ext ((Ext.refl x3).alloc #[.int .i64 6, .int .i64 m, .int .i64 ((m : Int) + 1), .int .i64 0, .int .i64 0, .int .i64 0, sv []] 64)).app hO4 hg4 hl4); obtain ⟨d4, p4, rfl⟩ := sl_len hO4 (m + 3) (by have := HM.out; simp; omega); have b42 := (H4.out.box.2 2 _ rfl).1; have b43 := (H4.out.box.2 3 _ rfl).1; have q4i := HC0.out x4 H4.out.kd; have q4k := HC1.out x4 H4.out.kd; have s4 : w.heap.size < x4.heap.size := H4.out.box.1))
        go_ret2
        exact H4.out.out (by rw [HQ.out]; simp [h2, h4]) (by rw [HQ.out]; have := HM.out; simp [h2, h4]; omega)
end Go.Proofs.YtbplapkcleipiaaGreatDoor
/- The laws' Predicate: a constant. -/
namespace Go.Proofs.YtbplapkcleipiaaGreatDoor
open Go.ChangeShapes Go.WideShapes Go.ChangeAt Go.RowKit

set_option maxHeartbeats 8000000 in
set_option maxRecDepth 100000 in
theorem prd_cne (es : List X) (ks : List Int) (a0 a1 a2 a3 : Nat) (v : Value) (ka : Option Addr) (kc : Nat) (W w : World) (hO : OwnG tX.e W w v es) (hk : RdG w (.slice ka ks.length kc) ks) (hoff : Off tX.e W w (.slice ka ks.length kc)) (hn0 : 0 < ks.length) (hn : ks.length ≤ 1000) (hel : es.length ≤ 1000) (b0 : a0 ≤ 65535) (b1 : a1 ≤ 65535) (b2 : a2 ≤ 65535) (b3 : a3 ≤ 65535) (h5 : ¬ a2 % 5 = 0) (hy : ¬ atI ks ((a0 % ks.length : Nat) : Int) = atI ks ((a1 % ks.length : Nat) : Int)) :
    Calls Tryz.prog 20 #[v, .slice ka ks.length kc, .agg #[.int .u16 a0, .int .u16 a1, .int .u16 a2, .int .u16 a3]] w (PrdP W w v es (prdX es.length ks a0 a1 a2 a3)) := by
  obtain ⟨va, vc, rfl, v1, v2⟩ := hO.rd.shape
  have HI := Lib.hid (fun w => pick_prg a0 ks.length w (by omega) hn0 (by omega))
  have HK := Lib.hid (fun w => pick_prg a1 ks.length w (by omega) hn0 (by omega))
  have HQ := Lib.hid (show prdX es.length ks a0 a1 a2 a3 = if a3 % 4 = 0 then [⟨2, 0, 0, ((a0 % ks.length : Nat) : Int), nul⟩, ⟨1, 0, 0, 0, cstW (atI ks ((a0 % ks.length : Nat) : Int)) a3⟩, ⟨if a2 % 2 = 0 then 7 else 6, es.length, es.length + 1, 0, nul⟩, ⟨10, es.length + 2, 0, 0, nul⟩] else [⟨2, 0, 0, ((a0 % ks.length : Nat) : Int), nul⟩, ⟨1, 0, 0, 0, cstW (atI ks ((a0 % ks.length : Nat) : Int)) a3⟩, ⟨if a2 % 2 = 0 then 7 else 6, es.length, es.length + 1, 0, nul⟩] by
    have e : prdS ks a0 a1 a2 a3 = ⟨1, 0, 0, 0, cstW (atI ks ((a0 % ks.length : Nat) : Int)) a3⟩ := by unfold prdS; exact if_neg (fun h => hy h.1)
    unfold prdX; rw [if_neg h5, e])
  obtain ⟨i, hi⟩ : ∃ i, i = a0 % ks.length := ⟨_, rfl⟩
  obtain ⟨k, hk2⟩ : ∃ k, k = a1 % ks.length := ⟨_, rfl⟩
  have hin : i < ks.length := by rw [hi]; exact Nat.mod_lt _ hn0
  have hkn : k < ks.length := by rw [hk2]; exact Nat.mod_lt _ hn0
  rw [← hi] at HI HQ hy
  rw [← hk2] at HK hy
  try rw [← hk2] at HQ
  obtain ⟨kg, ko, rfl, _⟩ := rd_I hk i hin
  obtain ⟨y0, hy0⟩ : ∃ y, y = atI ks (i : Int) := ⟨_, rfl⟩
  obtain ⟨y1, hy1⟩ : ∃ y, y = atI ks (k : Int) := ⟨_, rfl⟩
  have HC0 := Lib.hid (fun (w1 : World) (h : RdG w1 (.slice (some ⟨kg, ko, none⟩) ks.length kc) ks) => show w1.cell? ⟨kg, ko + i, none⟩ = some (.int .i64 y0) by
    obtain ⟨_, _, e, c⟩ := rd_I h i hin
    cases e
    rw [c, hy0, show atI ks (i : Int) = ks[i] by simp [atI, List.getD, hin]])
  have HC1 := Lib.hid (fun (w1 : World) (h : RdG w1 (.slice (some ⟨kg, ko, none⟩) ks.length kc) ks) => show w1.cell? ⟨kg, ko + k, none⟩ = some (.int .i64 y1) by
    obtain ⟨_, _, e, c⟩ := rd_I h k hkn
    cases e
    rw [c, hy1, show atI ks (k : Int) = ks[k] by simp [atI, List.getD, hkn]])
  rw [← hy0] at hy
  rw [← hy1] at hy
  try rw [← hy0] at HQ
  have hw0 := wrapI (a0 : Int) (by omega) (by omega)
  have hw1 := wrapI (a1 : Int) (by omega) (by omega)
  obtain ⟨w0, hw0'⟩ : ∃ w0, w0 = w.alloc (.cells #[.int .u16 a0, .int .u16 a1, .int .u16 a2, .int .u16 a3] 40) := ⟨_, rfl⟩
  have H0 := Lib.hid (show PS W w (.slice va es.length vc) w.heap.size [.int .u16 a0, .int .u16 a1, .int .u16 a2, .int .u16 a3] (.slice (some ⟨kg, ko, none⟩) ks.length kc) ks w0 (.slice va es.length vc) es by
    have hE : Ext w w0 := by rw [hw0']; exact (Ext.refl _).alloc _ _
    exact ⟨hO.ext hE, by rw [hw0']; exact Bxn.new w _ _, fun g hg => by have := hO.lt g hg; omega, hk.ext hE, hoff.ext hE, grw_ext hE _, Loc.refl _ _⟩)
  have K0 := Lib.hid (H0.out.box.2 0 _ rfl).1
  have K1 := Lib.hid (H0.out.box.2 1 _ rfl).1
  have HW0 := Lib.hid hw0'
  obtain ⟨m, hm⟩ : ∃ m, m = es.length := ⟨_, rfl⟩
  obtain ⟨n, hn'⟩ : ∃ n, n = ks.length := ⟨_, rfl⟩
  have HM := Lib.hid hm
  have HNN := Lib.hid hn'
  rw [← hm] at H0 HQ hel ⊢
  rw [← hn'] at H0 HI HK HC0 HC1 hin hkn ⊢
  obtain ⟨z, hz⟩ : ∃ z, z = a2 % 5 := ⟨_, rfl⟩
  obtain ⟨z4, hz4⟩ : ∃ z, z = a3 % 4 := ⟨_, rfl⟩
  have hzb : z < 5 := by omega
  have hz4b : z4 < 4 := by omega
  have t5 : Int.tmod (a2 : Int) 5 = (z : Int) := by rw [Int.tmod_eq_emod_of_nonneg (by omega)]; omega
  have t5' : (a2 : Int) % 5 = (z : Int) := by omega
  have wz : IntKind.u16.wrap (z : Int) = (z : Int) := by simp only [IntKind.wrap, IntKind.bits, IntKind.signed]; simp; omega
  have hz0 : ¬ (z : Int) = 0 := by omega
  have hz0' : ((z : Int) == 0) = false := by simp; omega
  have hyb : (y0 == y1) = false := by simp; exact hy
  have T4 := Lib.hid (show Int.tmod (a3 : Int) 4 = (z4 : Int) ∧ (a3 : Int) % 4 = (z4 : Int) ∧ IntKind.u16.wrap (z4 : Int) = (z4 : Int) from ⟨by rw [Int.tmod_eq_emod_of_nonneg (by omega)]; omega, by omega, by simp only [IntKind.wrap, IntKind.bits, IntKind.signed]; simp; omega⟩)
  have T2 := Lib.hid (show (a2 % 2 = 0 → Int.tmod (a2 : Int) 2 = 0 ∧ (a2 : Int) % 2 = 0) ∧ (¬ a2 % 2 = 0 → Int.tmod (a2 : Int) 2 = 1 ∧ (a2 : Int) % 2 = 1) from ⟨fun h => ⟨by rw [Int.tmod_eq_emod_of_nonneg (by omega)]; omega, by omega⟩, fun h => ⟨by rw [Int.tmod_eq_emod_of_nonneg (by omega)]; omega, by omega⟩⟩)
  have HZ4 := Lib.hid hz4
  have ha3 : (0 : Int) ≤ (a3 : Int) := by omega
  have hcst := fun w => const_prg y0 (a3 : Int) ha3 w
  have hqs := HQ.out
  generalize hcv : cstW y0 (a3 : Int) = cv at hcst HQ hqs
  obtain ⟨ck, cn, cz⟩ := cv
  simp only [vv] at hcst
  have HCST := Lib.hid hcst
  clear hcst hqs ha3
  have hi0 : (0 : Int) ≤ (i : Int) := by omega
  have hi1 : (i : Int) < (n : Int) := by omega
  have hk0 : (0 : Int) ≤ (k : Int) := by omega
  have hk1 : (k : Int) < (n : Int) := by omega
  unfold maxLen at v2
  clear hO hk hoff hn0 hn b0 b1 b2 b3 hi hk2 hw0' hm v1 hin hkn hn' hz hz4 hzb hz4b h5 hy0 hy1
  go_enter Tryz.func20, Tryz.ntmps20
  go_wp2_with fail
  rw [← HW0.out]
  go_region_held3 (fun w' => w'.cell? ⟨w.heap.size, 0, none⟩ = some (.int .u16 a0) ∧ w'.cell? ⟨w.heap.size, 1, none⟩ = some (.int .u16 a1)) (first | exact ⟨K0.out, K1.out⟩ | go_keep)
    (first
      | (go_at_call 32; have mk2 := mk1; refine (HK.out _).mono ?_; rintro e y2 ⟨rfl, rfl⟩)
      | (go_at_call 32; refine (HI.out _).mono ?_; rintro e y1 ⟨rfl, rfl⟩; have mk1 : True := trivial))
  all_goals
    have h1 := Lib.hid (H0.out.ext (Ext.refl w0).drew)
    generalize w0.drew = x1 at h1 ⊢
    have H1 := h1
    clear K0 K1 H0 HW0 HI HK h1
    have q1 : (m : Int) + 1 - 1 = (m : Int) := by omega
    have q2 : ((m + 1 : Nat) : Int) - 1 = (m : Int) := by omega
    have q3 : ((m + 2 : Nat) : Int) - 1 = (m : Int) + 1 := by omega
    have q4 : ((m + 3 : Nat) : Int) - 1 = (m : Int) + 2 := by omega
    have q5 : ((m + 4 : Nat) : Int) - 1 = (m : Int) + 3 := by omega
    have q3' : (m : Int) + 2 - 1 = (m : Int) + 1 := by omega
    have q4' : (m : Int) + 3 - 1 = (m : Int) + 2 := by omega
    have q5' : (m : Int) + 4 - 1 = (m : Int) + 3 := by omega
    go_wp2_with (first
      | (at_builtin; refine appGL tX rfl _ _ rfl W _ _ rfl (H1.out.ext ((Ext.refl x1).alloc #[.int .i64 2, .int .i64 0, .int .i64 0, .int .i64 (i : Int), .int .i64 0, .int .i64 0, sv []] 64)).own _ [⟨2, 0, 0, (i : Int), nul⟩] rfl (rd_litG x1 ([⟨2, 0, 0, (i : Int), nul⟩] : List X) #[.int .i64 2, .int .i64 0, .int .i64 0, .int .i64 (i : Int), .int .i64 0, .int .i64 0, sv []] 64 _ 1 rfl rfl (by simp) rfl) (by have := HM.out; simp; omega) ?_; intro v2 x2 hO2 hg2 hl2; have H2 := Lib.hid ((H1.out.ext ((Ext.refl x1).alloc #[.int .i64 2, .int .i64 0, .int .i64 0, .int .i64 (i : Int), .int .i64 0, .int .i64 0, sv []] 64)).app hO2 hg2 hl2); obtain ⟨d2, p2, rfl⟩ := sl_len hO2 (m + 1) (by have := HM.out; simp; omega); have b22 := (H2.out.box.2 2 _ rfl).1; have b23 := (H2.out.box.2 3 _ rfl).1; have q2i := HC0.out x2 H2.out.kd; have q2k := HC1.out x2 H2.out.kd; have s2 : w.heap.size < x2.heap.size := H2.out.box.1))
    go_quiet (fail)
    go_wp2_with fail
    have hsw := s2
    go_region_held3 (fun w' => w'.cell? ⟨kg, ko + i, none⟩ = some (.int .i64 y0) ∧ w'.cell? ⟨w.heap.size, 3, none⟩ = some (.int .u16 a3)) (first | exact ⟨q2i, b23⟩ | exact ⟨f0, f1⟩ | exact ⟨q3i, b33⟩ | go_keep)
      (first
        | (go_at_call 39; refine (HCST.out _).mono ?_; rintro e y3 ⟨rfl, hE3⟩; have e3 : Ext x2 y3 := ⟨hE3.1, hE3.2.1, hE3.2.2⟩; have f0 := e3.keeps q2i; have f1 := e3.keeps b23; have H2b := Lib.hid (H2.out.ext e3); clear hE3)
        | (refine step_appGL tX rfl _ _ rfl W _ _ rfl (H2b.out.ext ((Ext.refl y3).alloc #[.int .i64 1, .int .i64 0, .int .i64 0, .int .i64 0, .int .i64 ck, .int .i64 cn, sv cz] 64)).own _ [⟨1, 0, 0, 0, ⟨ck, cn, cz⟩⟩] rfl (rd_litG y3 ([⟨1, 0, 0, 0, ⟨ck, cn, cz⟩⟩] : List X) #[.int .i64 1, .int .i64 0, .int .i64 0, .int .i64 0, .int .i64 ck, .int .i64 cn, sv cz] 64 _ 1 rfl rfl (by simp) rfl) (by have := HM.out; simp; omega) ?_; intro v3 x3 hO3 hg3 hl3; have H3 := Lib.hid ((H2b.out.ext ((Ext.refl y3).alloc #[.int .i64 1, .int .i64 0, .int .i64 0, .int .i64 0, .int .i64 ck, .int .i64 cn, sv cz] 64)).app hO3 hg3 hl3); obtain ⟨d3, p3, rfl⟩ := sl_len hO3 (m + 2) (by have := HM.out; simp; omega); have b32 := (H3.out.box.2 2 _ rfl).1; have b33 := (H3.out.box.2 3 _ rfl).1; have q3i := HC0.out x3 H3.out.kd; have q3k := HC1.out x3 H3.out.kd; have s3 : w.heap.size < x3.heap.size := H3.out.box.1))
    all_goals
      clear b22 b23 q2i q2k q3i q3k f0 f1
      by_cases h2 : a2 % 2 = 0
      · obtain ⟨t2, t2'⟩ := T2.out.1 h2
        obtain ⟨t4, t4', w4⟩ := T4.out
        by_cases h4 : a3 % 4 = 0
        · have hz4 : (z4 : Int) = 0 := by have := HZ4.out; omega
          rw [hz4] at t4 t4'
          clear w4 hz4
          go_wp2_with (first
            | (at_builtin; refine appGL tX rfl _ _ rfl W _ _ rfl (H3.out.ext ((Ext.refl x3).alloc #[.int .i64 7, .int .i64 m, .int .i64 ((m : Int) + 1), .int .i64 0, .int .i64 0, .int .i64 0, sv []] 64)).own _ [⟨7, m, ((m : Int) + 1), 0, nul⟩] rfl (rd_litG x3 ([⟨7, m, ((m : Int) + 1), 0, nul⟩] : List X) #[.int .i64 7, .int .i64 m, .int .i64 ((m : Int) + 1), .int .i64 0, .int .i64 0, .int .i64 0, sv []] 64 _ 1 rfl rfl (by simp) rfl) (by have := HM.out; simp; omega) ?_; intro v4 x4 hO4 hg4 hl4; have H4 := Lib.hid ((H3.out.ext ((Ext.refl x3).alloc #[.int .i64 7, .int .i64 m, .int .i64 ((m : Int) + 1), .int .i64 0, .int .i64 0, .int .i64 0, sv []] 64)).app hO4 hg4 hl4); obtain ⟨d4, p4, rfl⟩ := sl_len hO4 (m + 3) (by have := HM.out; simp; omega); have b42 := (H4.out.box.2 2 _ rfl).1; have b43 := (H4.out.box.2 3 _ rfl).1; have q4i := HC0.out x4 H4.out.kd; have q4k := HC1.out x4 H4.out.kd; have s4 : w.heap.size < x4.heap.size := H4.out.box.1)
            | (at_builtin; refine appGL tX rfl _ _ rfl W _ _ rfl (H4.out.ext ((Ext.refl x4).alloc #[.int .i64 10, .int .i64 ((m : Int) + 2), .int .i64 0, .int .i64 0, .int .i64 0, .int .i64 0, sv []] 64)).own _ [⟨10, ((m : Int) + 2), 0, 0, nul⟩] rfl (rd_litG x4 ([⟨10, ((m : Int) + 2), 0, 0, nul⟩] : List X) #[.int .i64 10, .int .i64 ((m : Int) + 2), .int .i64 0, .int .i64 0, .int .i64 0, .int .i64 0, sv []] 64 _ 1 rfl rfl (by simp) rfl) (by have := HM.out; simp; omega) ?_; intro v5 x5 hO5 hg5 hl5; have H5 := Lib.hid ((H4.out.ext ((Ext.refl x4).alloc #[.int .i64 10, .int .i64 ((m : Int) + 2), .int .i64 0, .int .i64 0, .int .i64 0, .int .i64 0, sv []] 64)).app hO5 hg5 hl5); obtain ⟨d5, p5, rfl⟩ := sl_len hO5 (m + 4) (by have := HM.out; simp; omega); have b52 := (H5.out.box.2 2 _ rfl).1; have b53 := (H5.out.box.2 3 _ rfl).1; have q5i := HC0.out x5 H5.out.kd; have q5k := HC1.out x5 H5.out.kd; have s5 : w.heap.size < x5.heap.size := H5.out.box.1))
          go_ret2
          exact H5.out.out (by rw [HQ.out]; simp [h2, h4]) (by rw [HQ.out]; have := HM.out; simp [h2, h4]; omega)
        · have hz4 : ¬ (z4 : Int) = 0 := by have := HZ4.out; omega
          have hz4' : ((z4 : Int) == 0) = false := by simpa using hz4
          go_wp2_with (first
            | (at_builtin; refine appGL tX rfl _ _ rfl W _ _ rfl (H3.out.ext ((Ext.refl x3).alloc #[.int .i64 7, .int .i64 m, .int .i64 ((m : Int) + 1), .int .i64 0, .int .i64 0, .int .i64 0, sv []] 64)).own _ [⟨7, m, ((m : Int) + 1), 0, nul⟩] rfl (rd_litG x3 ([⟨7, m, ((m : Int) + 1), 0, nul⟩] : List X) #[.int .i64 7, .int .i64 m, .int .i64 ((m : Int) + 1), .int .i64 0, .int .i64 0, .int .i64 0, sv []] 64 _ 1 rfl rfl (by simp) rfl) (by have := HM.out; simp; omega) ?_; intro v4 x4 hO4 hg4 hl4; have H4 := Lib.hid ((H3.out.ext ((Ext.refl x3).alloc #[.int .i64 7, .int .i64 m, .int .i64 ((m : Int) + 1), .int .i64 0, .int .i64 0, .int .i64 0, sv []] 64)).app hO4 hg4 hl4); obtain ⟨d4, p4, rfl⟩ := sl_len hO4 (m + 3) (by have := HM.out; simp; omega); have b42 := (H4.out.box.2 2 _ rfl).1; have b43 := (H4.out.box.2 3 _ rfl).1; have q4i := HC0.out x4 H4.out.kd; have q4k := HC1.out x4 H4.out.kd; have s4 : w.heap.size < x4.heap.size := H4.out.box.1))
          go_ret2
          exact H4.out.out (by rw [HQ.out]; simp [h2, h4]) (by rw [HQ.out]; have := HM.out; simp [h2, h4]; omega)
      · obtain ⟨t2, t2'⟩ := T2.out.2 h2
        obtain ⟨t4, t4', w4⟩ := T4.out
        by_cases h4 : a3 % 4 = 0
        · have hz4 : (z4 : Int) = 0 := by have := HZ4.out; omega
          rw [hz4] at t4 t4'
          clear w4 hz4
          go_wp2_with (first
            | (at_builtin; refine appGL tX rfl _ _ rfl W _ _ rfl (H3.out.ext ((Ext.refl x3).alloc #[.int .i64 6, .int .i64 m, .int .i64 ((m : Int) + 1), .int .i64 0, .int .i64 0, .int .i64 0, sv []] 64)).own _ [⟨6, m, ((m : Int) + 1), 0, nul⟩] rfl (rd_litG x3 ([⟨6, m, ((m : Int) + 1), 0, nul⟩] : List X) #[.int .i64 6, .int .i64 m, .int .i64 ((m : Int) + 1), .int .i64 0, .int .i64 0, .int .i64 0, sv []] 64 _ 1 rfl rfl (by simp) rfl) (by have := HM.out; simp; omega) ?_; intro v4 x4 hO4 hg4 hl4; have H4 := Lib.hid ((H3.out.ext ((Ext.refl x3).alloc #[.int .i64 6, .int .i64 m, .int .i64 ((m : Int) + 1), .int .i64 0, .int .i64 0, .int .i64 0, sv []] 64)).app hO4 hg4 hl4); obtain ⟨d4, p4, rfl⟩ := sl_len hO4 (m + 3) (by have := HM.out; simp; omega); have b42 := (H4.out.box.2 2 _ rfl).1; have b43 := (H4.out.box.2 3 _ rfl).1; have q4i := HC0.out x4 H4.out.kd; have q4k := HC1.out x4 H4.out.kd; have s4 : w.heap.size < x4.heap.size := H4.out.box.1)
            | (at_builtin; refine appGL tX rfl _ _ rfl W _ _ rfl (H4.out.ext ((Ext.refl x4).alloc #[.int .i64 10, .int .i64 ((m : Int) + 2), .int .i64 0, .int .i64 0, .int .i64 0, .int .i64 0, sv []] 64)).own _ [⟨10, ((m : Int) + 2), 0, 0, nul⟩] rfl (rd_litG x4 ([⟨10, ((m : Int) + 2), 0, 0, nul⟩] : List X) #[.int .i64 10, .int .i64 ((m : Int) + 2), .int .i64 0, .int .i64 0, .int .i64 0, .int .i64 0, sv []] 64 _ 1 rfl rfl (by simp) rfl) (by have := HM.out; simp; omega) ?_; intro v5 x5 hO5 hg5 hl5; have H5 := Lib.hid ((H4.out.ext ((Ext.refl x4).alloc #[.int .i64 10, .int .i64 ((m : Int) + 2), .int .i64 0, .int .i64 0, .int .i64 0, .int .i64 0, sv []] 64)).app hO5 hg5 hl5); obtain ⟨d5, p5, rfl⟩ := sl_len hO5 (m + 4) (by have := HM.out; simp; omega); have b52 := (H5.out.box.2 2 _ rfl).1; have b53 := (H5.out.box.2 3 _ rfl).1; have q5i := HC0.out x5 H5.out.kd; have q5k := HC1.out x5 H5.out.kd; have s5 : w.heap.size < x5.heap.size := H5.out.box.1))
          go_ret2
          exact H5.out.out (by rw [HQ.out]; simp [h2, h4]) (by rw [HQ.out]; have := HM.out; simp [h2, h4]; omega)
        · have hz4 : ¬ (z4 : Int) = 0 := by have := HZ4.out; omega
          have hz4' : ((z4 : Int) == 0) = false := by simpa using hz4
          go_wp2_with (first
            | (at_builtin; refine appGL tX rfl _ _ rfl W _ _ rfl (H3.out.ext ((Ext.refl x3).alloc #[.int .i64 6, .int .i64 m, .int .i64 ((m : Int) + 1), .int .i64 0, .int .i64 0, .int .i64 0, sv []] 64)).own _ [⟨6, m, ((m : Int) + 1), 0, nul⟩] rfl (rd_litG x3 ([⟨6, m, ((m : Int) + 1), 0, nul⟩] : List X) #[.int .i64 6, .int .i64 m, .int .i64 ((m : Int) + 1), .int .i64 0, .int .i64 0, .int .i64 0, sv []] 64 _ 1 rfl rfl (by simp) rfl) (by have := HM.out; simp; omega) ?_; intro v4 x4 hO4 hg4 hl4; have H4 := Lib.hid ((H3.out.ext ((Ext.refl x3).alloc #[.int .i64 6, .int .i64 m, .int .i64 ((m : Int) + 1), .int .i64 0, .int .i64 0, .int .i64 0, sv []] 64)).app hO4 hg4 hl4); obtain ⟨d4, p4, rfl⟩ := sl_len hO4 (m + 3) (by have := HM.out; simp; omega); have b42 := (H4.out.box.2 2 _ rfl).1; have b43 := (H4.out.box.2 3 _ rfl).1; have q4i := HC0.out x4 H4.out.kd; have q4k := HC1.out x4 H4.out.kd; have s4 : w.heap.size < x4.heap.size := H4.out.box.1))
          go_ret2
          exact H4.out.out (by rw [HQ.out]; simp [h2, h4]) (by rw [HQ.out]; have := HM.out; simp [h2, h4]; omega)
end Go.Proofs.YtbplapkcleipiaaGreatDoor
