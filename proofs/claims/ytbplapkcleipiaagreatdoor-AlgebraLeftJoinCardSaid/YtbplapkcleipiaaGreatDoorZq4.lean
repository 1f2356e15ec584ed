/- The laws' Predicate: a constant. -/
import Derived.BigQuiet
import Derived.Test.YtbplapkcleipiaaGreatDoorZz09
import Derived.Test.YtbplapkcleipiaaGreatDoorZz43
import Derived.Test.YtbplapkcleipiaaGreatDoorZz07
import Derived.Test.YtbplapkcleipiaaGreatDoorZz06
import Derived.Test.YtbplapkcleipiaaGreatDoorZz04
import Derived.Test.YtbplapkcleipiaaGreatDoorZq2
import Derived.Test.YtbplapkcleipiaaGreatDoorZq3
namespace Go.Proofs.YtbplapkcleipiaaGreatDoor
open Go.ChangeShapes Go.WideShapes Go.ChangeAt Go.RowKit

set_option maxHeartbeats 8000000 in
set_option maxRecDepth 100000 in
theorem prd_ceq (es : List X) (ks : List Int) (a0 a1 a2 a3 : Nat) (v : Value) (ka : Option Addr) (kc : Nat) (W w : World) (hO : OwnG tX.e W w v es) (hk : RdG w (.slice ka ks.length kc) ks) (hoff : Off tX.e W w (.slice ka ks.length kc)) (hn0 : 0 < ks.length) (hn : ks.length ≤ 1000) (hel : es.length ≤ 1000) (b0 : a0 ≤ 65535) (b1 : a1 ≤ 65535) (b2 : a2 ≤ 65535) (b3 : a3 ≤ 65535) (h5 : ¬ a2 % 5 = 0) (h3 : ¬ a2 % 5 < 3) (hy : atI ks ((a0 % ks.length : Nat) : Int) = atI ks ((a1 % ks.length : Nat) : Int)) :
    Calls Tryz.prog 20 #[v, .slice ka ks.length kc, .agg #[.int .u16 a0, .int .u16 a1, .int .u16 a2, .int .u16 a3]] w (PrdP W w v es (prdX es.length ks a0 a1 a2 a3)) := by
  obtain ⟨va, vc, rfl, v1, v2⟩ := hO.rd.shape
  have HI := Lib.hid (fun w => pick_prg a0 ks.length w (by omega) hn0 (by omega))
  have HK := Lib.hid (fun w => pick_prg a1 ks.length w (by omega) hn0 (by omega))
  have HQ := Lib.hid (show prdX es.length ks a0 a1 a2 a3 = if a3 % 4 = 0 then [⟨2, 0, 0, ((a0 % ks.length : Nat) : Int), nul⟩, ⟨1, 0, 0, 0, cstW (atI ks ((a0 % ks.length : Nat) : Int)) a3⟩, ⟨if a2 % 2 = 0 then 7 else 6, es.length, es.length + 1, 0, nul⟩, ⟨10, es.length + 2, 0, 0, nul⟩] else [⟨2, 0, 0, ((a0 % ks.length : Nat) : Int), nul⟩, ⟨1, 0, 0, 0, cstW (atI ks ((a0 % ks.length : Nat) : Int)) a3⟩, ⟨if a2 % 2 = 0 then 7 else 6, es.length, es.length + 1, 0, nul⟩] by
    have e : prdS ks a0 a1 a2 a3 = ⟨1, 0, 0, 0, cstW (atI ks ((a0 % ks.length : Nat) : Int)) a3⟩ := by unfold prdS; exact if_neg (fun h => h3 h.2)
    unfold prdX; rw [if_neg h5, e])
  obtain ⟨i, hi⟩ : ∃ i, i = a0 % ks.length := ⟨_, rfl⟩
  obtain ⟨k, hk2⟩ : ∃ k, k = a1 % ks.length := ⟨_, rfl⟩
  have hin : i < ks.length := by rw [hi]; exact Nat.mod_lt _ hn0
  have hkn : k < ks.length := by rw [hk2]; exact Nat.mod_lt _ hn0
  rw [← hi] at HI HQ hy
  rw [← hk2] at HK hy
  try rw [← hk2] at HQ
  obtain ⟨kg, ko, rfl, _⟩ := rd_I hk i hin
  obtain ⟨y0, hy0⟩ : ∃ y, y = atI ks (i : Int) := ⟨_, rfl⟩
  obtain ⟨y1, hy1⟩ : ∃ y, y = atI ks (k : Int) := ⟨_, rfl⟩
  have HC0 := Lib.hid (fun (w1 : World) (h : RdG w1 (.slice (some ⟨kg, ko, none⟩) ks.length kc) ks) => show w1.cell? ⟨kg, ko + i, none⟩ = some (.int .i64 y0) by
    obtain ⟨_, _, e, c⟩ := rd_I h i hin
    cases e
    rw [c, hy0, show atI ks (i : Int) = ks[i] by simp [atI, List.getD, hin]])
  have HC1 := Lib.hid (fun (w1 : World) (h : RdG w1 (.slice (some ⟨kg, ko, none⟩) ks.length kc) ks) => show w1.cell? ⟨kg, ko + k, none⟩ = some (.int .i64 y1) by
    obtain ⟨_, _, e, c⟩ := rd_I h k hkn
    cases e
    rw [c, hy1, show atI ks (k : Int) = ks[k] by simp [atI, List.getD, hkn]])
  rw [← hy0] at hy
  rw [← hy1] at hy
  try rw [← hy0] at HQ
  have hw0 := wrapI (a0 : Int) (by omega) (by omega)
  have hw1 := wrapI (a1 : Int) (by omega) (by omega)
  obtain ⟨w0, hw0'⟩ : ∃ w0, w0 = w.alloc (.cells #[.int .u16 a0, .int .u16 a1, .int .u16 a2, .int .u16 a3] 40) := ⟨_, rfl⟩
  have H0 := Lib.hid (show PS W w (.slice va es.length vc) w.heap.size [.int .u16 a0, .int .u16 a1, .int .u16 a2, .int .u16 a3] (.slice (some ⟨kg, ko, none⟩) ks.length kc) ks w0 (.slice va es.length vc) es by
    have hE : Ext w w0 := by rw [hw0']; exact (Ext.refl _).alloc _ _
    exact ⟨hO.ext hE, by rw [hw0']; exact Bxn.new w _ _, fun g hg => by have := hO.lt g hg; omega, hk.ext hE, hoff.ext hE, grw_ext hE _, Loc.refl _ _⟩)
  have K0 := Lib.hid (H0.out.box.2 0 _ rfl).1
  have K1 := Lib.hid (H0.out.box.2 1 _ rfl).1
  have HW0 := Lib.hid hw0'
  obtain ⟨m, hm⟩ : ∃ m, m = es.length := ⟨_, rfl⟩
  obtain ⟨n, hn'⟩ : ∃ n, n = ks.length := ⟨_, rfl⟩
  have HM := Lib.hid hm
  have HNN := Lib.hid hn'
  rw [← hm] at H0 HQ hel ⊢
  rw [← hn'] at H0 HI HK HC0 HC1 hin hkn ⊢
  obtain ⟨z, hz⟩ : ∃ z, z = a2 % 5 := ⟨_, rfl⟩
  obtain ⟨z4, hz4⟩ : ∃ z, z = a3 % 4 := ⟨_, rfl⟩
  have hzb : z < 5 := by omega
  have hz4b : z4 < 4 := by omega
  have t5 : Int.tmod (a2 : Int) 5 = (z : Int) := by rw [Int.tmod_eq_emod_of_nonneg (by omega)]; omega
  have t5' : (a2 : Int) % 5 = (z : Int) := by omega
  have wz : IntKind.u16.wrap (z : Int) = (z : Int) := by simp only [IntKind.wrap, IntKind.bits, IntKind.signed]; simp; omega
  have hz0 : ¬ (z : Int) = 0 := by omega
  have hz0' : ((z : Int) == 0) = false := by simp; omega
  have hz3 : ¬ (z : Int) < 3 := by omega
  subst hy
  have T4 := Lib.hid (show Int.tmod (a3 : Int) 4 = (z4 : Int) ∧ (a3 : Int) % 4 = (z4 : Int) ∧ IntKind.u16.wrap (z4 : Int) = (z4 : Int) from ⟨by rw [Int.tmod_eq_emod_of_nonneg (by omega)]; omega, by omega, by simp only [IntKind.wrap, IntKind.bits, IntKind.signed]; simp; omega⟩)
  have T2 := Lib.hid (show (a2 % 2 = 0 → Int.tmod (a2 : Int) 2 = 0 ∧ (a2 : Int) % 2 = 0) ∧ (¬ a2 % 2 = 0 → Int.tmod (a2 : Int) 2 = 1 ∧ (a2 : Int) % 2 = 1) from ⟨fun h => ⟨by rw [Int.tmod_eq_emod_of_nonneg (by omega)]; omega, by omega⟩, fun h => ⟨by rw [Int.tmod_eq_emod_of_nonneg (by omega)]; omega, by omega⟩⟩)
  have HZ4 := Lib.hid hz4
  have ha3 : (0 : Int) ≤ (a3 : Int) := by omega
  have hcst := fun w => const_prg y0 (a3 : Int) ha3 w
  have hqs := HQ.out
  generalize hcv : cstW y0 (a3 : Int) = cv at hcst HQ hqs
  obtain ⟨ck, cn, cz⟩ := cv
  simp only [vv] at hcst
  have HCST := Lib.hid hcst
  clear hcst hqs ha3
  have hi0 : (0 : Int) ≤ (i : Int) := by omega
  have hi1 : (i : Int) < (n : Int) := by omega
  have hk0 : (0 : Int) ≤ (k : Int) := by omega
  have hk1 : (k : Int) < (n : Int) := by omega
  unfold maxLen at v2
  clear hO hk hoff hn0 hn b0 b1 b2 b3 hi hk2 hw0' hm v1 hin hkn hn' hz hz4 hzb hz4b h5 h3 hy0 hy1
  go_enter Tryz.func20, Tryz.ntmps20
  go_wp2_with fail
  rw [← HW0.out]
  go_region_held3 (fun w' => w'.cell? ⟨w.heap.size, 0, none⟩ = some (.int .u16 a0) ∧ w'.cell? ⟨w.heap.size, 1, none⟩ = some (.int .u16 a1)) (first | exact ⟨K0.out, K1.out⟩ | go_keep)
    (first
      | (go_at_call 32; have mk2 := mk1; refine (HK.out _).mono ?_; rintro e y2 ⟨rfl, rfl⟩)
      | (go_at_call 32; refine (HI.out _).mono ?_; rintro e y1 ⟨rfl, rfl⟩; have mk1 : True := trivial))
  all_goals
    have h1 := Lib.hid (H0.out.ext (Ext.refl w0).drew)
    generalize w0.drew = x1 at h1 ⊢
    have H1 := h1
    clear K0 K1 H0 HW0 HI HK h1
    have q1 : (m : Int) + 1 - 1 = (m : Int) := by omega
    have q2 : ((m + 1 : Nat) : Int) - 1 = (m : Int) := by omega
    have q3 : ((m + 2 : Nat) : Int) - 1 = (m : Int) + 1 := by omega
    have q4 : ((m + 3 : Nat) : Int) - 1 = (m : Int) + 2 := by omega
    have q5 : ((m + 4 : Nat) : Int) - 1 = (m : Int) + 3 := by omega
    have q3' : (m : Int) + 2 - 1 = (m : Int) + 1 := by omega
    have q4' : (m : Int) + 3 - 1 = (m : Int) + 2 := by omega
    have q5' : (m : Int) + 4 - 1 = (m : Int) + 3 := by omega
    go_wp2_with (first
      | (at_builtin; refine appGL tX rfl _ _ rfl W _ _ rfl (H1.out.ext ((Ext.refl x1).alloc #[.int .i64 2, .int .i64 0, .int .i64 0, .int .i64 (i : Int), .int .i64 0, .int .i64 0, sv []] 64)).own _ [⟨2, 0, 0, (i : Int), nul⟩] rfl (rd_litG x1 ([⟨2, 0, 0, (i : Int), nul⟩] : List X) #[.int .i64 2, .int .i64 0, .int .i64 0, .int .i64 (i : Int), .int .i64 0, .int .i64 0, sv []] 64 _ 1 rfl rfl (by simp) rfl) (by have := HM.out; simp; omega) ?_; intro v2 x2 hO2 hg2 hl2; have H2 := Lib.hid ((H1.out.ext ((Ext.refl x1).alloc #[.int .i64 2, .int .i64 0, .int .i64 0, .int .i64 (i : Int), .int .i64 0, .int .i64 0, sv []] 64)).app hO2 hg2 hl2); obtain ⟨d2, p2, rfl⟩ := sl_len hO2 (m + 1) (by have := HM.out; simp; omega); have b22 := (H2.out.box.2 2 _ rfl).1; have b23 := (H2.out.box.2 3 _ rfl).1; have q2i := HC0.out x2 H2.out.kd; have q2k := HC1.out x2 H2.out.kd; have s2 : w.heap.size < x2.heap.size := H2.out.box.1))
    go_quiet (fail)
    go_wp2_with fail
    have hsw := s2
    go_region_held3 (fun w' => w'.cell? ⟨kg, ko + i, none⟩ = some (.int .i64 y0) ∧ w'.cell? ⟨w.heap.size, 3, none⟩ = some (.int .u16 a3)) (first | exact ⟨q2i, b23⟩ | exact ⟨f0, f1⟩ | exact ⟨q3i, b33⟩ | go_keep)
      (first
        | (go_at_call 39; refine (HCST.out _).mono ?_; rintro e y3 ⟨rfl, hE3⟩; have e3 : Ext x2 y3 := ⟨hE3.1, hE3.2.1, hE3.2.2⟩; have f0 := e3.keeps q2i; have f1 := e3.keeps b23; have H2b := Lib.hid (H2.out.ext e3); clear hE3)
        | (refine step_appGL tX rfl _ _ rfl W _ _ rfl (H2b.out.ext ((Ext.refl y3).alloc #[.int .i64 1, .int .i64 0, .int .i64 0, .int .i64 0, .int .i64 ck, .int .i64 cn, sv cz] 64)).own _ [⟨1, 0, 0, 0, ⟨ck, cn, cz⟩⟩] rfl (rd_litG y3 ([⟨1, 0, 0, 0, ⟨ck, cn, cz⟩⟩] : List X) #[.int .i64 1, .int .i64 0, .int .i64 0, .int .i64 0, .int .i64 ck, .int .i64 cn, sv cz] 64 _ 1 rfl rfl (by simp) rfl) (by have := HM.out; simp; omega) ?_; intro v3 x3 hO3 hg3 hl3; have H3 := Lib.hid ((H2b.out.ext ((Ext.refl y3).alloc #[.int .i64 1, .int .i64 0, .int .i64 0, .int .i64 0, .int .i64 ck, .int .i64 cn, sv cz] 64)).app hO3 hg3 hl3); obtain ⟨d3, p3, rfl⟩ := sl_len hO3 (m + 2) (by have := HM.out; simp; omega); have b32 := (H3.out.box.2 2 _ rfl).1; have b33 := (H3.out.box.2 3 _ rfl).1; have q3i := HC0.out x3 H3.out.kd; have q3k := HC1.out x3 H3.out.kd; have s3 : w.heap.size < x3.heap.size := H3.out.box.1))
    all_goals
      clear b22 b23 q2i q2k q3i q3k f0 f1
      by_cases h2 : a2 % 2 = 0
      · obtain ⟨t2, t2'⟩ := T2.out.1 h2
        obtain ⟨t4, t4', w4⟩ := T4.out
        by_cases h4 : a3 % 4 = 0
        · have hz4 : (z4 : Int) = 0 := by have := HZ4.out; omega
          rw [hz4] at t4 t4'
          clear w4 hz4
          go_wp2_with (first
            | (at_builtin; refine appGL tX rfl _ _ rfl W _ _ rfl (H3.out.ext ((Ext.refl x3).alloc #[.int .i64 7, .int .i64 m, .int .i64 ((m : Int) + 1), .int .i64 0, .int .i64 0, .int .i64 0, sv []] 64)).own _ [⟨7, m, ((m : Int) + 1), 0, nul⟩] rfl (rd_litG x3 ([⟨7, m, ((m : Int) + 1), 0, nul⟩] : List X) #[.int .i64 7, .int .i64 m, .int .i64 ((m : Int) + 1), .int .i64 0, .int .i64 0, .int .i64 0, sv []] 64 _ 1 rfl rfl (by simp) rfl) (by have := HM.out; simp; omega) ?_; intro v4 x4 hO4 hg4 hl4; have H4 := Lib.hid ((H3.out.ext ((Ext.refl x3).alloc #[.int .i64 7, .int .i64 m, .int .i64 ((m : Int) + 1), .int .i64 0, .int .i64 0, .int .i64 0, sv []] 64)).app hO4 hg4 hl4); obtain ⟨d4, p4, rfl⟩ := sl_len hO4 (m + 3) (by have := HM.out; simp; omega); have b42 := (H4.out.box.2 2 _ rfl).1; have b43 := (H4.out.box.2 3 _ rfl).1; have q4i := HC0.out x4 H4.out.kd; have q4k := HC1.out x4 H4.out.kd; have s4 : w.heap.size < x4.heap.size := H4.out.box.1)
            | (at_builtin; refine appGL tX rfl _ _ rfl W _ _ rfl (H4.out.ext ((Ext.refl x4).alloc #[.int .i64 10, .int .i64 ((m : Int) + 2), .int .i64 0, .int .i64 0, .int .i64 0, .int .i64 0, sv []] 64)).own _ [⟨10, ((m : Int) + 2), 0, 0, nul⟩] rfl (rd_litG x4 ([⟨10, ((m : Int) + 2), 0, 0, nul⟩] : List X) #[.int .i64 10, .int .i64 ((m : Int) + 2), .int .i64 0, .int .i64 0, .int .i64 0, .int .i64 0, sv []] 64 _ 1 rfl rfl (by simp) rfl) (by have := HM.out; simp; omega) ?_; intro v5 x5 hO5 hg5 hl5; have H5 := Lib.hid ((H4.out.ext ((Ext.refl x4).alloc #[.int .i64 10, .int .i64 ((m : Int) + 2), .int .i64 0, .int .i64 0, .int .i64 0, .int .i64 0, sv []] 64)).app hO5 hg5 hl5); obtain ⟨d5, p5, rfl⟩ := sl_len hO5 (m + 4) (by have := HM.out; simp; omega); have b52 := (H5.out.box.2 2 _ rfl).1; have b53 := (H5.out.box.2 3 _ rfl).1; have q5i := HC0.out x5 H5.out.kd; have q5k := HC1.out x5 H5.out.kd; have s5 : w.heap.size < x5.heap.size := H5.out.box.1))
          go_ret2
          exact H5.out.out (by rw [HQ.out]; simp [h2, h4]) (by rw [HQ.out]; have := HM.out; simp [h2, h4]; omega)
        · have hz4 : ¬ (z4 : Int) = 0 := by have := HZ4.out; omega
          have hz4' : ((z4 : Int) == 0) = false := by simpa using hz4
          go_wp2_with (first
            | (at_builtin; refine appGL tX rfl _ _ rfl W _ _ rfl (H3.out.ext ((Ext.refl x3).alloc #[.int .i64 7, .int .i64 m, .int .i64 ((m : Int) + 1), .int .i64 0, .int .i64 0, .int .i64 0, sv []] 64)).own _ [⟨7, m, ((m : Int) + 1), 0, nul⟩] rfl (rd_litG x3 ([⟨7, m, ((m : Int) + 1), 0, nul⟩] : List X) #[.int .i64 7, .int .i64 m, .int .i64 ((m : Int) + 1), .int .i64 0, .int .i64 0, .int .i64 0, sv []] 64 _ 1 rfl rfl (by simp) rfl) (by have := HM.out; simp; omega) ?_; intro v4 x4 hO4 hg4 hl4; have H4 := Lib.hid ((H3.out.ext ((Ext.refl x3).alloc #[.int .i64 7, .int .i64 m, .int .i64 ((m : Int) + 1), .int .i64 0, .int .i64 0, .int .i64 0, sv []] 64)).app hO4 hg4 hl4); obtain ⟨d4, p4, rfl⟩ := sl_len hO4 (m + 3) (by have := HM.out; simp; omega); have b42 := (H4.out.box.2 2 _ rfl).1; have b43 := (H4.out.box.2 3 _ rfl).1; have q4i := HC0.out x4 H4.out.kd; have q4k := HC1.out x4 H4.out.kd; have s4 : w.heap.size < x4.heap.size := H4.out.box.1))
          go_ret2
          exact H4.out.out (by rw [HQ.out]; simp [h2, h4]) (by rw [HQ.out]; have := HM.out; simp [h2, h4]; omega)
      · obtain ⟨t2, t2'⟩ := T2.out.2 h2
        obtain ⟨t4, t4', w4⟩ := T4.out
        by_cases h4 : a3 % 4 = 0
        · have hz4 : (z4 : Int) = 0 := by have := HZ4.out; omega
          rw [hz4] at t4 t4'
          clear w4 hz4
          go_wp2_with (first
            | (at_builtin; refine appGL tX rfl _ _ rfl W _ _ rfl (H3.out.ext ((Ext.refl x3).alloc #[.int .i64 6, .int .i64 m, .int .i64 ((m : Int) + 1), .int .i64 0, .int .i64 0, .int .i64 0, sv []] 64)).own _ [⟨6, m, ((m : Int) + 1), 0, nul⟩] rfl (rd_litG x3 ([⟨6, m, ((m : Int) + 1), 0, nul⟩] : List X) #[.int .i64 6, .int .i64 m, .int .i64 ((m : Int) + 1), .int .i64 0, .int .i64 0, .int .i64 0, sv []] 64 _ 1 rfl rfl (by simp) rfl) (by have := HM.out; simp; omega) ?_; intro v4 x4 hO4 hg4 hl4; have H4 := Lib.hid ((H3.out.ext ((Ext.refl x3).alloc #[.int .i64 6, .int .i64 m, .int .i64 ((m : Int) + 1), .int .i64 0, .int .i64 0, .int .i64 0, sv []] 64)).app hO4 hg4 hl4); obtain ⟨d4, p4, rfl⟩ := sl_len hO4 (m + 3) (by have := HM.out; simp; omega); have b42 := (H4.out.box.2 2 _ rfl).1; have b43 := (H4.out.box.2 3 _ rfl).1; have q4i := HC0.out x4 H4.out.kd; have q4k := HC1.out x4 H4.out.kd; have s4 : w.heap.size < x4.heap.size := H4.out.box.1)
            | (at_builtin; refine appGL tX rfl _ _ rfl W _ _ rfl (H4.out.ext ((Ext.refl x4).alloc #[.int .i64 10, .int .i64 ((m : Int) + 2), .int .i64 0, .int .i64 0, .int .i64 0, .int .i64 0, sv []] 64)).own _ [⟨10, ((m : Int) + 2), 0, 0, nul⟩] rfl (rd_litG x4 ([⟨10, ((m : Int) + 2), 0, 0, nul⟩] : List X) #[.int .i64 10, .int .i64 ((m : Int) + 2), .int .i64 0, .int .i64 0, .int .i64 0, .int .i64 0, sv []] 64 _ 1 rfl rfl (by simp) rfl) (by have := HM.out; simp; omega) ?_; intro v5 x5 hO5 hg5 hl5; have H5 := Lib.hid ((H4.out.ext ((Ext.refl x4).alloc #[.int .i64 10, .int .i64 ((m : Int) + 2), .int .i64 0, .int .i64 0, .int .i64 0, .int .i64 0, sv []] 64)).app hO5 hg5 hl5); obtain ⟨d5, p5, rfl⟩ := sl_len hO5 (m + 4) (by have := HM.out; simp; omega); have b52 := (H5.out.box.2 2 _ rfl).1; have b53 := (H5.out.box.2 3 _ rfl).1; have q5i := HC0.out x5 H5.out.kd; have q5k := HC1.out x5 H5.out.kd; have s5 : w.heap.size < x5.heap.size := H5.out.box.1))
          go_ret2
          exact H5.out.out (by rw [HQ.out]; simp [h2, h4]) (by rw [HQ.out]; have := HM.out; simp [h2, h4]; omega)
        · have hz4 : ¬ (z4 : Int) = 0 := by have := HZ4.out; omega
          have hz4' : ((z4 : Int) == 0) = false := by simpa using hz4
          go_wp2_with (first
            | (at_builtin; refine appGL tX rfl _ _ rfl W _ _ rfl (H3.out.ext ((Ext.refl x3).alloc #[.int .i64 6, .int .i64 m, .int .i64 ((m : Int) + 1), .int .i64 0, .int .i64 0, .int .i64 0, sv []] 64)).own _ [⟨6, m, ((m : Int) + 1), 0, nul⟩] rfl (rd_litG x3 ([⟨6, m, ((m : Int) + 1), 0, nul⟩] : List X) #[.int .i64 6, .int .i64 m, .int .i64 ((m : Int) + 1), .int .i64 0, .int .i64 0, .int .i64 0, sv []] 64 _ 1 rfl rfl (by simp) rfl) (by have := HM.out; simp; omega) ?_; intro v4 x4 hO4 hg4 hl4; have H4 := Lib.hid ((H3.out.ext ((Ext.refl x3).alloc #[.int .i64 6, .int .i64 m, .int .i64 ((m : Int) + 1), .int .i64 0, .int .i64 0, .int .i64 0, sv []] 64)).app hO4 hg4 hl4); obtain ⟨d4, p4, rfl⟩ := sl_len hO4 (m + 3) (by have := HM.out; simp; omega); have b42 := (H4.out.box.2 2 _ rfl).1; have b43 := (H4.out.box.2 3 _ rfl).1; have q4i := HC0.out x4 H4.out.kd; have q4k := HC1.out x4 H4.out.kd; have s4 : w.heap.size < x4.heap.size := H4.out.box.1))
          go_ret2
          exact H4.out.out (by rw [HQ.out]; simp [h2, h4]) (by rw [HQ.out]; have := HM.out; simp [h2, h4]; omega)
end Go.Proofs.YtbplapkcleipiaaGreatDoor
/- The laws' Predicate, whatever its numbers are. -/
namespace Go.Proofs.YtbplapkcleipiaaGreatDoor
open Go.ChangeShapes Go.WideShapes Go.ChangeAt Go.RowKit

theorem prd_prg (es : List X) (ks : List Int) (a0 a1 a2 a3 : Nat) (v : Value) (ka : Option Addr) (kc : Nat) (W w : World) (hO : OwnG tX.e W w v es) (hk : RdG w (.slice ka ks.length kc) ks) (hoff : Off tX.e W w (.slice ka ks.length kc)) (hn0 : 0 < ks.length) (hn : ks.length ≤ 1000) (hel : es.length ≤ 1000) (b0 : a0 ≤ 65535) (b1 : a1 ≤ 65535) (b2 : a2 ≤ 65535) (b3 : a3 ≤ 65535) :
    Calls Tryz.prog 20 #[v, .slice ka ks.length kc, .agg #[.int .u16 a0, .int .u16 a1, .int .u16 a2, .int .u16 a3]] w (PrdP W w v es (prdX es.length ks a0 a1 a2 a3)) := by
  by_cases h5 : a2 % 5 = 0
  · exact prd_null es ks a0 a1 a2 a3 v ka kc W w hO hk hoff hn0 hn hel b0 b1 b2 b3 h5
  · by_cases hy : atI ks ((a0 % ks.length : Nat) : Int) = atI ks ((a1 % ks.length : Nat) : Int)
    · by_cases h3 : a2 % 5 < 3
      · exact prd_col es ks a0 a1 a2 a3 v ka kc W w hO hk hoff hn0 hn hel b0 b1 b2 b3 h5 h3 hy
      · exact prd_ceq es ks a0 a1 a2 a3 v ka kc W w hO hk hoff hn0 hn hel b0 b1 b2 b3 h5 h3 hy
    · exact prd_cne es ks a0 a1 a2 a3 v ka kc W w hO hk hoff hn0 hn hel b0 b1 b2 b3 h5 hy
end Go.Proofs.YtbplapkcleipiaaGreatDoor
/- The laws' nodes: two scans, more nodes, one predicate for all. -/
namespace Go.Proofs.YtbplapkcleipiaaGreatDoor
open Go.ChangeShapes Go.WideShapes Go.ChangeAt Go.RowKit

/-- nodes without expressions of their own -/
def Bare (l : List Nd) : Prop := ∀ n ∈ l, n.ex = [] ∧ n.ag = []
def setP (p : Int) (n : Nd) : Nd := { n with p := p }
/-- the first j nodes have their predicate -/
def stL (p : Int) (l : List Nd) (j : Nat) : List Nd := (l.take j).map (setP p) ++ l.drop j
theorem stL_len (p : Int) (l : List Nd) (j : Nat) : (stL p l j).length = l.length := by unfold stL; rw [List.length_append, List.length_map, List.length_take, List.length_drop]; omega
theorem stL_zero (p : Int) (l : List Nd) : stL p l 0 = l := by simp [stL]
theorem stL_all (p : Int) (l : List Nd) {j : Nat} (h : l.length ≤ j) : stL p l j = l.map (setP p) := by unfold stL; rw [List.take_of_length_le h, List.drop_of_length_le h, List.append_nil]
theorem stL_at (p : Int) (l : List Nd) (j : Nat) (hj : j < l.length) : (stL p l j)[j]'(by rw [stL_len]; exact hj) = l[j] := by
  unfold stL
  rw [List.getElem_append_right (by rw [List.length_map, List.length_take]; omega), List.getElem_drop]
  congr 1
  rw [List.length_map, List.length_take]; omega
theorem stL_set (p : Int) (l : List Nd) (j : Nat) (hj : j < l.length) : (stL p l j).set j (setP p l[j]) = stL p l (j + 1) := by
  unfold stL
  rw [List.set_append_right _ _ (by rw [List.length_map, List.length_take]; omega), List.length_map, List.length_take, Nat.min_eq_left (Nat.le_of_lt hj), Nat.sub_self, List.drop_eq_getElem_cons hj, List.set_cons_zero, List.take_succ_eq_append_getElem hj, List.map_append, List.append_assoc]
  rfl
theorem bare_st {p : Int} {l : List Nd} (h : Bare l) (j : Nat) : Bare (stL p l j) := fun n hn => by
  rcases List.mem_append.1 hn with hn | hn
  · obtain ⟨q, hq, rfl⟩ := List.mem_map.1 hn
    exact h q (List.mem_of_mem_take hq)
  · exact h n (List.mem_of_mem_drop hn)
theorem bare_rd {w : World} {v : Value} {l : List Nd} (hb : Bare l) (h : RdG w v (l.map (NdP.mk hd0))) : RdN w v l := by
  refine ⟨_, h, fun q hq => ?_, by rw [List.map_map]; exact List.map_id _⟩
  obtain ⟨n, hn, rfl⟩ := List.mem_map.1 hq
  unfold RdNd
  rw [(hb n hn).1, (hb n hn).2]; exact ⟨rdG_nil _, rdG_nil _⟩
theorem own_shape2 {α : Type} [Enc α] {e : TypeId} {W w : World} {v : Value} {l : List α} {n : Nat} (h : OwnG e W w v l) (hl : l.length = n) (h0 : n ≠ 0) : ∃ g cap, v = .slice (some ⟨g, 0, none⟩) n cap := by
  subst hl
  exact own_shape h h0
def scs : List Nd := [⟨1, 0, 0, 0, [114], [], []⟩, ⟨1, 0, 0, 0, [115], [], []⟩]
def NgR (W : World) (L : List Nd) (pr : Int) (es : List X) (g cap qb rb n : Nat) (ve : Value) (i : Value) (wr : World) : Prop :=
  ∃ j : Nat, j ≤ n ∧ i = .int .i64 j ∧ OwnG tNd.e W wr (.slice (some ⟨g, 0, none⟩) n cap) ((stL pr L j).map (NdP.mk hd0)) ∧ Bxn qb [.slice (some ⟨g, 0, none⟩) n cap, ve] wr ∧ Bxn rb [.slice none 0 0, .slice none 0 0] wr ∧ RdG wr ve es ∧ In (fun q => some q ≠ some g) ve ∧ In (fun q => some q ≠ some rb) ve
set_option maxHeartbeats 8000000 in
set_option maxRecDepth 100000 in
theorem nodes_own (ms : List Nd) (hm : ms.length ≤ 10) (p0 p1 p2 p3 : Nat) (k0 : p0 ≤ 65535) (k1 : p1 ≤ 65535) (k2 : p2 ≤ 65535) (k3 : p3 ≤ 65535) (vl : Value) (w : World) (hl : RdG w vl (ms.map (NdP.mk hd0))) :
    Calls Tryz.prog 17 #[.agg #[.int .u16 p0, .int .u16 p1, .int .u16 p2, .int .u16 p3], vl] w fun e w' => ∃ vn ve, e = .returned (.agg #[vn, ve]) ∧ OwnG tNd.e w w' vn (((scs ++ ms).map (setP (((prdX 0 [1, 2] p0 p1 p2 p3).length - 1 : Nat) : Int))).map (NdP.mk hd0)) ∧ RdG w' ve (prdX 0 [1, 2] p0 p1 p2 p3) ∧ Ext w w' := by
  obtain ⟨la, lc, rfl, l1, l2⟩ := hl.shape
  have HL := Lib.hid hl
  have HKN := Lib.hid (fun w => kinds_prg w)
  have HPR := Lib.hid (fun ka kc w (h : RdG w (.slice ka 2 kc) ([1, 2] : List Int)) => prd_prg [] [1, 2] p0 p1 p2 p3 (.slice none 0 0) ka kc w w (OwnG.nil _ _ _ (Ext.refl w)) h (off_old h) (by decide) (by decide) (by decide) k0 k1 k2 k3)
  obtain ⟨n, hn⟩ : ∃ n, n = (scs ++ ms).length := ⟨_, rfl⟩
  have HN := Lib.hid hn
  have hn2 : 2 ≤ n := by rw [hn, List.length_append]; show 2 ≤ 2 + _; omega
  have hn0 : n ≠ 0 := by omega
  have hnb : n ≤ 12 := by rw [hn, List.length_append]; show 2 + _ ≤ 12; omega
  have hml : (ms.map (NdP.mk hd0)).length + 2 = n := by rw [hn, List.length_append, List.length_map]; show _ = 2 + _; omega
  have HSP := Lib.hid (show (([⟨hd0, ⟨1, 0, 0, 0, [114], [], []⟩⟩, ⟨hd0, ⟨1, 0, 0, 0, [115], [], []⟩⟩] : List NdP) ++ ms.map (NdP.mk hd0)) = (stL (((prdX 0 [1, 2] p0 p1 p2 p3).length - 1 : Nat) : Int) (scs ++ ms) 0).map (NdP.mk hd0) by rw [stL_zero, List.map_append]; rfl)
  have HPX := Lib.hid (fun ka kc w (h : RdG w (.slice ka 2 kc) ([1, 2] : List Int)) => (HPR.out ka kc w h).mono (R' := fun e w' => ∃ v', e = .returned (.tuple #[v', .int .i64 (((prdX 0 [1, 2] p0 p1 p2 p3).length - 1 : Nat) : Int)]) ∧ OwnG tX.e w w' v' (prdX 0 [1, 2] p0 p1 p2 p3)) (fun e w' ⟨v', h1, h2, _, _⟩ => ⟨v', by rw [h1]; simp, by simpa using h2⟩))
  clear HPR
  generalize hX : prdX 0 [1, 2] p0 p1 p2 p3 = es at *
  have HEL := Lib.hid (show 2 ≤ es.length by rw [← hX]; exact (prdX_len 0 [1, 2] p0 p1 p2 p3).2)
  obtain ⟨pr, hpr⟩ : ∃ pr : Int, pr = ((es.length - 1 : Nat) : Int) := ⟨_, rfl⟩
  rw [← hpr] at HPX HSP ⊢
  have HMS := Lib.hid hml
  clear hl hm hX hpr hml hn k0 k1 k2 k3
  obtain ⟨w0, hw0⟩ : ∃ w0, w0 = (w.alloc (.cells #[.int .u16 p0, .int .u16 p1, .int .u16 p2, .int .u16 p3] 40)).alloc (.cells #[.slice none 0 0, .slice none 0 0] 26) := ⟨_, rfl⟩
  have EX := Lib.hid (show Ext w w0 by rw [hw0]; exact ((Ext.refl _).alloc _ _).alloc _ _)
  have HA := Lib.hid (show Bxn w.heap.size [.int .u16 p0, .int .u16 p1, .int .u16 p2, .int .u16 p3] w0 by rw [hw0]; exact (Bxn.new w _ _).ext ((Ext.refl _).alloc _ _))
  have HR := Lib.hid (show Bxn (w.heap.size + 1) [.slice none 0 0, .slice none 0 0] w0 by rw [hw0, ← alsz w]; exact Bxn.new _ _ _)
  have HS0 := Lib.hid (show w0.heap.size = w.heap.size + 1 + 1 by rw [hw0]; simp)
  have HO0 := Lib.hid (own_litB tNd.e (Ext.refl w0) ([⟨hd0, ⟨1, 0, 0, 0, [114], [], []⟩⟩, ⟨hd0, ⟨1, 0, 0, 0, [115], [], []⟩⟩] : List NdP) #[.int .i64 1, .int .i64 0, .int .i64 0, .int .i64 0, sv [114], .slice none 0 0, .slice none 0 0, .int .i64 1, .int .i64 0, .int .i64 0, .int .i64 0, sv [115], .slice none 0 0, .slice none 0 0] w0.heap.size 2 rfl rfl (by simp) rfl)
  have HLX := Lib.hid (HL.out.ext (EX.out.alloc #[.int .i64 1, .int .i64 0, .int .i64 0, .int .i64 0, sv [114], .slice none 0 0, .slice none 0 0, .int .i64 1, .int .i64 0, .int .i64 0, .int .i64 0, sv [115], .slice none 0 0, .slice none 0 0] 45))
  have HW0 := Lib.hid hw0
  clear hw0
  go_enter Tryz.func17, Tryz.ntmps17
  go_wp2_with (at_builtin; rw [← HW0.out]; refine appGL tNd rfl _ _ rfl w0 _ [⟨hd0, ⟨1, 0, 0, 0, [114], [], []⟩⟩, ⟨hd0, ⟨1, 0, 0, 0, [115], [], []⟩⟩] (by simp only [HS0.out]; rfl) HO0.out _ (ms.map (NdP.mk hd0)) rfl HLX.out (by have := HMS.out; simp only [List.length_cons, List.length_nil]; omega) ?_; intro v2 w2 hO2 hg2 hl2; obtain ⟨g2, cap2, rfl⟩ := own_shape2 hO2 (n := n) (by rw [List.length_append, ← HMS.out]; exact Nat.add_comm _ _) hn0)
  obtain ⟨X3, hX3⟩ : ∃ X3, X3 = w2.alloc (.cells #[.slice (some ⟨g2, 0, none⟩) n cap2, .slice none 0 0] 26) := ⟨_, rfl⟩
  have hE3 : Ext w2 X3 := by rw [hX3]; exact (Ext.refl _).alloc _ _
  have HE3 := Lib.hid hE3
  have HO2 := Lib.hid (show OwnG tNd.e w0 X3 (.slice (some ⟨g2, 0, none⟩) n cap2) ((stL pr (scs ++ ms) 0).map (NdP.mk hd0)) by rw [← HSP.out]; exact hO2.ext hE3)
  have HQ := Lib.hid (show Bxn w2.heap.size [.slice (some ⟨g2, 0, none⟩) n cap2, .slice none 0 0] X3 by rw [hX3]; exact Bxn.new _ _ _)
  have HA3 := Lib.hid (HA.out.ext (hO2.2.trans hE3))
  have HR3 := Lib.hid (HR.out.ext (hO2.2.trans hE3))
  have HG2 := Lib.hid (show g2 < w2.heap.size from hO2.lt g2 rfl)
  have HSA := Lib.hid (show w.heap.size + 1 < w2.heap.size by have := HS0.out; have := hO2.2.2.2; omega)
  have HX3 := Lib.hid hX3
  have A0 := Lib.hid (HA3.out.2 0 _ rfl).1
  have A1 := Lib.hid (HA3.out.2 1 _ rfl).1
  have A2 := Lib.hid (HA3.out.2 2 _ rfl).1
  have A3 := Lib.hid (HA3.out.2 3 _ rfl).1
  have HEX := Lib.hid (EX.out.trans (hO2.2.trans hE3))
  clear hO2 hg2 hl2 hE3 hX3 HLX HO0 HW0
  go_wp2_with fail
  rw [← HX3.out]
  have hne : ¬ w2.heap.size = w.heap.size := by have := HSA.out; omega
  go_region_held3 (fun w' => w'.cell? ⟨w.heap.size, 0, none⟩ = some (.int .u16 p0) ∧ w'.cell? ⟨w.heap.size, 1, none⟩ = some (.int .u16 p1) ∧ w'.cell? ⟨w.heap.size, 2, none⟩ = some (.int .u16 p2) ∧ w'.cell? ⟨w.heap.size, 3, none⟩ = some (.int .u16 p3))
    (first | exact ⟨A0.out, A1.out, A2.out, A3.out⟩ | exact ⟨f0, f1, f2, f3⟩ | exact ⟨g0, g1, g3, g4⟩ | exact ⟨(World.cell?_setCell_far _ _ _ _ hne).trans g0, (World.cell?_setCell_far _ _ _ _ hne).trans g1, (World.cell?_setCell_far _ _ _ _ hne).trans g3, (World.cell?_setCell_far _ _ _ _ hne).trans g4⟩ | go_keep)
    (first
      | (go_at_call 21; refine (HKN.out _).mono ?_; rintro e w4 ⟨ka, kc, rfl, hkd, hE4'⟩; have hE4 : Ext X3 w4 := hE4'; have f0 := hE4.keeps A0.out; have f1 := hE4.keeps A1.out; have f2 := hE4.keeps A2.out; have f3 := hE4.keeps A3.out; have HE4 := Lib.hid hE4; have HKD := Lib.hid hkd; clear hE4 hE4' hkd)
      | (go_at_call 20; refine (HPX.out ka kc _ HKD.out).mono ?_; rintro e w5 ⟨v5, rfl, h5'⟩; have h5 : OwnG tX.e w4 w5 v5 es := h5'; obtain ⟨a5, c5, rfl, _, _⟩ := h5.rd.shape; have hE5 := HE4.out.trans h5.2; have g0 := hE5.keeps A0.out; have g1 := hE5.keeps A1.out; have g3 := hE5.keeps A2.out; have g4 := hE5.keeps A3.out; have hq5 := HQ.out.ext hE5; have b1 := (hq5.2 1 _ rfl).1; have b1f := (hq5.2 1 _ rfl).2; have bs := hq5.1; have HQ5 := Lib.hid hq5; have HE5 := Lib.hid hE5; have H5 := Lib.hid h5; clear hq5 hE5 h5 h5'))
  all_goals
    obtain ⟨X6, hX6⟩ : ∃ X6, X6 = w5.setCell ⟨w2.heap.size, 1, none⟩ (.slice a5 es.length c5) := ⟨_, rfl⟩
    have hb5 : ∀ q, (Value.slice a5 es.length c5).ownBlock = some q → X3.heap.size ≤ q := fun q hq => Nat.le_trans HE4.out.2.2 (H5.out.blk q hq).1
    have hX3s : w2.heap.size < X3.heap.size := HQ.out.1
    have HOX := Lib.hid (show OwnG tNd.e w0 X6 (.slice (some ⟨g2, 0, none⟩) n cap2) ((stL pr (scs ++ ms) 0).map (NdP.mk hd0)) by
      rw [hX6]
      refine (HO2.out.ext HE5.out).other (set_grw _ _ _ _) (fun q hq => ?_) (.inr fun e => ?_)
      · injection hq with hq; have := HS0.out; have := HSA.out; omega
      · have e2 : g2 = w2.heap.size := Option.some.inj e
        have := HG2.out; omega)
    have HQX := Lib.hid (show Bxn w2.heap.size [.slice (some ⟨g2, 0, none⟩) n cap2, .slice a5 es.length c5] X6 by rw [hX6]; exact HQ5.out.set 1 _)
    have HRX := Lib.hid (show Bxn (w.heap.size + 1) [.slice none 0 0, .slice none 0 0] X6 by rw [hX6]; exact (HR3.out.ext HE5.out).far (by have := HSA.out; omega))
    have HLV := Lib.hid (show RdG X6 (.slice a5 es.length c5) es by
      rw [hX6]
      refine H5.out.rd.out (set_grw _ _ _ _) (fun q hq _ e => ?_)
      injection e with e; have := hb5 q hq; omega)
    have HIN := Lib.hid (show In (fun q => some q ≠ some g2) (.slice a5 es.length c5) from fun q hq _ e => by
      injection e with e; have := hb5 q hq; have := HG2.out; omega)
    have HIR := Lib.hid (show In (fun q => some q ≠ some (w.heap.size + 1)) (.slice a5 es.length c5) from fun q hq _ e => by
      have e2 : q = w.heap.size + 1 := Option.some.inj e
      have := hb5 q hq; have := HSA.out; omega)
    have HEX6 := Lib.hid (show Ext w X6 by rw [hX6]; exact (HEX.out.trans HE5.out).setNew _ _ (by have := HSA.out; omega) _)
    have HX6 := Lib.hid hX6
    clear hX6 hb5 hX3s b1 b1f bs
    rw [← HX6.out]
    have t0 := (HQX.out.2 0 _ rfl).1
    go_wp2_with fail
    have HGR := Lib.hid (show w.heap.size + 1 < g2 by have h := (HO2.out.blk g2 rfl).1; have := HS0.out; omega)
    go_loopw [24] (NgR w0 (scs ++ ms) pr es g2 cap2 w2.heap.size (w.heap.size + 1) n (.slice a5 es.length c5)) (fun i _ => n - (intOf i).toNat)
    case atStart => exact ⟨0, by omega, rfl, HOX.out, HQX.out, HRX.out, HLV.out, HIN.out, HIR.out⟩
    case round =>
      obtain ⟨j, hj, rfl, hO, hB, hR, hV, hI, hI2⟩ := hrel
      have b0 := (hB.2 0 _ rfl).1
      have b1 := (hB.2 1 _ rfl).1
      have r0 := (hR.2 0 _ rfl).1
      have r0f := (hR.2 0 _ rfl).2
      have r1 := (hR.2 1 _ rfl).1
      have r1f := (hR.2 1 _ rfl).2
      have sb := hB.1
      have sr := hR.1
      have hj0 : (0 : Int) ≤ (j : Int) := Int.natCast_nonneg _
      by_cases hlt : j < n
      · have hlt' : j < (scs ++ ms).length := by rw [← HN.out]; exact hlt
        have hj1 : (j : Int) < (n : Int) := by omega
        have hls : j < ((stL pr (scs ++ ms) j).map (NdP.mk hd0)).length := by rw [List.length_map, stL_len]; exact hlt'
        have hat : ((stL pr (scs ++ ms) j).map (NdP.mk hd0))[j] = ⟨hd0, (scs ++ ms)[j]⟩ := by rw [List.getElem_map, stL_at pr (scs ++ ms) j hlt']
        obtain ⟨g', o', e', hc⟩ := hO.rd.at j hls
        cases e'
        have hOn := own_setJ hO j 3 hls (by decide) ⟨hd0, setP pr (scs ++ ms)[j]⟩ (.int .i64 pr) (by rw [hat]; rfl)
        have hset : ((stL pr (scs ++ ms) j).map (NdP.mk hd0)).set j ⟨hd0, setP pr (scs ++ ms)[j]⟩ = (stL pr (scs ++ ms) (j + 1)).map (NdP.mk hd0) := by rw [← stL_set pr (scs ++ ms) j hlt', List.map_set]
        rw [hset] at hOn
        rw [hat] at hc
        have z := hc 3 _ rfl
        have hw1 := hO.1
        rw [List.length_map, stL_len, ← HN.out] at hw1
        have zf := hw1.frozenAt (j * 7 + 3)
        simp only [Nat.zero_add, Enc.sz] at z zf
        have HON := Lib.hid (show OwnG tNd.e w0 (wr.setCell ⟨g2, j * 7 + 3, none⟩ (.int .i64 pr)) (.slice (some ⟨g2, 0, none⟩) n cap2) ((stL pr (scs ++ ms) (j + 1)).map (NdP.mk hd0)) from hOn)
        have hlt2 := World.block_lt_of_cell? _ _ z
        clear hOn hset hat hls hc hO hw1
        go_wp2_with fail
        go_roundw
        case rel => exact ⟨j + 1, hlt, by go_num, HON.out, hB.far (by have := HG2.out; omega), hR.far (by have := HGR.out; omega), hV.out (set_grw _ _ _ _) (fun q hq hl e => hI q hq hl e), hI, hI2⟩
        case measure => first | (simp [intOf]; done) | (simp [intOf]; omega)
      · have hR2 := (hR.set 0 (.slice (some ⟨g2, 0, none⟩) n cap2)).set 1 (.slice a5 es.length c5)
        have z0 := (hR2.2 0 _ rfl).1
        have z1 := (hR2.2 1 _ rfl).1
        rw [stL_all pr (scs ++ ms) (by rw [← HN.out]; omega)] at hO
        have HF := Lib.hid (show Grw wr ((wr.setCell ⟨w.heap.size + 1, 0, none⟩ (.slice (some ⟨g2, 0, none⟩) n cap2)).setCell ⟨w.heap.size + 1, 1, none⟩ (.slice a5 es.length c5)) (some (w.heap.size + 1)) from (set_grw _ _ _ _).trans (set_grw _ _ _ _) (.inl rfl))
        have HON := Lib.hid ((hO.base EX.out).other HF.out (fun q hq => by
          injection hq with hq; subst hq; omega) (.inr (fun e => by
          have e2 : g2 = w.heap.size + 1 := Option.some.inj e
          have := HGR.out; omega)))
        have HVN := Lib.hid (hV.out HF.out hI2)
        have HEN := Lib.hid (((EX.out.trans hO.2).setNew (w.heap.size + 1) 0 (by omega) (.slice (some ⟨g2, 0, none⟩) n cap2)).setNew (w.heap.size + 1) 1 (by omega) (.slice a5 es.length c5))
        clear hR2 hO hV
        go_wp2_with fail
        exact bodyPost_ret (v := .agg #[.slice (some ⟨g2, 0, none⟩) n cap2, .slice a5 es.length c5]) (by simp [results, Tryz.results17, go_sem, z0, z1]) rfl ⟨_, _, rfl, HON.out, HVN.out, HEN.out⟩
theorem nodes_prg (ms : List Nd) (hb : Bare ms) (hm : ms.length ≤ 10) (p0 p1 p2 p3 : Nat) (k0 : p0 ≤ 65535) (k1 : p1 ≤ 65535) (k2 : p2 ≤ 65535) (k3 : p3 ≤ 65535) (vl : Value) (w : World) (hl : RdG w vl (ms.map (NdP.mk hd0))) :
    Calls Tryz.prog 17 #[.agg #[.int .u16 p0, .int .u16 p1, .int .u16 p2, .int .u16 p3], vl] w fun e w' => ∃ vn ve, e = .returned (.agg #[vn, ve]) ∧ RdN w' vn ((scs ++ ms).map (setP (((prdX 0 [1, 2] p0 p1 p2 p3).length - 1 : Nat) : Int))) ∧ RdG w' ve (prdX 0 [1, 2] p0 p1 p2 p3) ∧ Ext w w' :=
  (nodes_own ms hm p0 p1 p2 p3 k0 k1 k2 k3 vl w hl).mono fun _ _ ⟨vn, ve, e, h1, h2, h3⟩ => ⟨vn, ve, e, bare_rd (fun nd hnd => by
    obtain ⟨q, hq, rfl⟩ := List.mem_map.1 hnd
    rcases List.mem_append.1 hq with hq | hq
    · simp only [scs, List.mem_cons, List.not_mem_nil, or_false] at hq
      rcases hq with rfl | rfl <;> exact ⟨rfl, rfl⟩
    · exact hb q hq) h1.rd, h2, h3⟩
end Go.Proofs.YtbplapkcleipiaaGreatDoor
/- Tuples: how they lie. -/
namespace Go.Proofs.YtbplapkcleipiaaGreatDoor
open Go.ChangeShapes Go.WideShapes Go.ChangeAt Go.RowKit

/-- a tuple: how it lies, and what it is -/
structure TP where
  h : Hd
  r : R
  a : Int
  b : Int
instance : Inhabited TP := ⟨⟨⟨none, 0, 0, none, 0, 0⟩, ⟨[], []⟩, 0, 0⟩⟩
instance : Enc TP := ⟨4, by decide, fun p => [p.h.x, .int .i64 p.a, .int .i64 p.b, p.h.y], fun _ => rfl, fun a u h => by simp at h; rcases h with rfl | rfl | rfl | rfl <;> rfl⟩
def tT : RowT TP := ⟨84, 79, default, .agg #[.slice none 0 0, .int .i64 0, .int .i64 0, .slice none 0 0], 64, Tryz.underlying79, by kernel_rfl, by rfl, by decide⟩
theorem rd_T {w : World} {ad : Option Addr} {n cap : Nat} {l : List TP} (h : RdG w (.slice ad n cap) l) (i : Nat) (hi : i < l.length) : ∃ g o, ad = some ⟨g, o, none⟩ ∧ w.cell? ⟨g, o + i * 4, none⟩ = some l[i].h.x ∧ w.cell? ⟨g, o + i * 4 + 1, none⟩ = some (.int .i64 l[i].a) ∧ w.cell? ⟨g, o + i * 4 + 2, none⟩ = some (.int .i64 l[i].b) ∧ w.cell? ⟨g, o + i * 4 + 3, none⟩ = some l[i].h.y := by
  obtain ⟨g, o, e, c⟩ := h.at i hi
  exact ⟨g, o, e, c 0 _ rfl, c 1 _ rfl, c 2 _ rfl, c 3 _ rfl⟩
end Go.Proofs.YtbplapkcleipiaaGreatDoor
/- The laws' builders of periods and tuples. -/
namespace Go.Proofs.YtbplapkcleipiaaGreatDoor
open Go.ChangeShapes Go.WideShapes Go.ChangeAt Go.RowKit

set_option maxHeartbeats 4000000 in
theorem period_law (x y : Int) (h0 : 0 ≤ x) (_h1 : x ≤ 65535) (k0 : 0 ≤ y) (_k1 : y ≤ 65535) (w : World) : Calls Tryz.prog 61 #[.int .u16 x, .int .u16 y] w (BpP w) := by
  obtain ⟨f, hf⟩ : ∃ m, m = x % 40 := ⟨_, rfl⟩
  obtain ⟨m, hm⟩ : ∃ m, m = y % 11 := ⟨_, rfl⟩
  obtain ⟨d, hd⟩ : ∃ m, m = y % 15 := ⟨_, rfl⟩
  have hf1 : Int.tmod x 40 = f := by rw [Int.tmod_eq_emod_of_nonneg h0]; exact hf.symm
  have hm1 : Int.tmod y 11 = m := by rw [Int.tmod_eq_emod_of_nonneg k0]; exact hm.symm
  have hd1 : Int.tmod y 15 = d := by rw [Int.tmod_eq_emod_of_nonneg k0]; exact hd.symm
  have hf2 := hf.symm
  have hm2 := hm.symm
  have hd2 := hd.symm
  have hfb : 0 ≤ f ∧ f ≤ 39 := by omega
  have hmb : 0 ≤ m ∧ m ≤ 10 := by omega
  have hdb : 0 ≤ d ∧ d ≤ 14 := by omega
  have wf1 := wrapU f (by omega) (by omega)
  have wm1 := wrapU m (by omega) (by omega)
  have wd1 := wrapU d (by omega) (by omega)
  have wf2 := wrapI f (by omega) (by omega)
  have wd2 := wrapI d (by omega) (by omega)
  have wf3 := wrapI (f + 1) (by omega) (by omega)
  have wf4 := wrapI (f + 1 + d) (by omega) (by omega)
  clear hf hm hd
  by_cases hz : m = 0
  · subst hz
    go_enter Tryz.func61, Tryz.ntmps61
    go_wp2_with fail
    all_goals
      exact bodyPost_ret (v := pv f 1000000) (by simp [results, Tryz.results61, go_sem]) rfl ⟨_, _, rfl, by repeat (first | exact Ext.refl _ | refine Ext.alloc ?_ _ _ | refine Ext.setNew ?_ _ _ (by simp; try omega) _)⟩
  · have hz1 : (m == 0) = false := by simpa using hz
    go_enter Tryz.func61, Tryz.ntmps61
    go_wp2_with fail
    all_goals
      exact bodyPost_ret (v := pv f (f + 1 + d)) (by simp [results, Tryz.results61, go_sem]) rfl ⟨_, _, rfl, by repeat (first | exact Ext.refl _ | refine Ext.alloc ?_ _ _ | refine Ext.setNew ?_ _ _ (by simp; try omega) _)⟩
/-- some tuple, its parts the call's own -/
def BtP (w : World) (e : Ending) (w' : World) : Prop := ∃ (v : Value) (l : List V) (v2 : Value) (l2 : List Int) (a b : Int), e = .returned (.agg #[v, .int .i64 a, .int .i64 b, v2]) ∧ OwnG tV.e w w' v l ∧ OwnG tI.e w w' v2 l2 ∧ l.length = 2 ∧ l2.length = 1 ∧ (∀ v ∈ l, SmV v) ∧ ∀ x ∈ l2, 1 ≤ x ∧ x ≤ 5
end Go.Proofs.YtbplapkcleipiaaGreatDoor
