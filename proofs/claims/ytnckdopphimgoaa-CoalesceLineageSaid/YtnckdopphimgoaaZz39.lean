/- The laws' sanity check of coalescing. -/
import Derived.Test.YtnckdopphimgoaaZz36
import Derived.Test.YtnckdopphimgoaaZz38
namespace Go.Proofs.Ytnckdopphimgoaa
open Go.ChangeShapes Go.WideShapes Go.ChangeAt Go.RowKit

theorem aw_nf11 (vs : List V) : IsCo [⟨⟨vs, [1]⟩, 0, 5⟩, ⟨⟨vs, [2]⟩, 5, 9⟩] [⟨⟨vs, []⟩, 0, 9⟩] := by
  show IsNf (ats [⟨⟨vs, []⟩, 0, 5⟩, ⟨⟨vs, []⟩, 5, 9⟩]) [⟨⟨vs, []⟩, 0, 9⟩]
  generalize (⟨vs, []⟩ : R) = r
  have hp : ∀ s a b c d, per [⟨r, a, b⟩, ⟨r, c, d⟩] s = if r = s then [(a, b), (c, d)] else [] := by
    intro s a b c d
    rw [per_cons, per_cons]
    by_cases e : r = s
    · rw [if_pos e, if_pos e, if_pos e]; rfl
    · rw [if_neg e, if_neg e, if_neg e]; rfl
  have hq : ∀ s a b, per [⟨r, a, b⟩] s = if r = s then [(a, b)] else [] := by
    intro s a b
    rw [per_cons]
    by_cases e : r = s
    · rw [if_pos e, if_pos e]; rfl
    · rw [if_neg e, if_neg e]; rfl
  refine ⟨List.pairwise_singleton _ _, fun s => ?_, fun s t => ?_⟩
  · rw [hq]
    by_cases e : r = s
    · rw [if_pos e]
      refine ⟨fun p hp => ?_, fun p hp q hq => ?_⟩
      · rw [List.mem_singleton.1 hp]
        unfold okP; omega
      · rw [List.mem_singleton.1 hp, List.mem_singleton.1 hq]
        unfold Nst; omega
    · rw [if_neg e]; exact Lam.nil
  · unfold ats
    rw [hp, hq]
    by_cases e : r = s
    · rw [if_pos e, if_pos e]
      rw [cov_cons, cov_cons, cov_cons]
      have e1 : incB 0 9 t = true ↔ 0 ≤ t ∧ t < 9 := by rw [incB_yes]; omega
      have e3 : incB 0 5 t = true ↔ 0 ≤ t ∧ t < 5 := by rw [incB_yes]; omega
      have e4 : incB 5 9 t = true ↔ 5 ≤ t ∧ t < 9 := by rw [incB_yes]; omega
      simp only [e1, e3, e4]
      by_cases c1 : 0 ≤ t <;> by_cases c2 : t < 5 <;> by_cases c3 : t < 9
      all_goals (repeat' split) <;> omega
    · rw [if_neg e, if_neg e]
set_option maxHeartbeats 8000000 in
set_option maxRecDepth 100000 in
theorem awake_law (w : World) : Calls Try.prog 8 #[] w fun e w' => e = .returned (.bool true) ∧ Ext w w' := by
  have HVS := Lib.hid (fun w => valsx 0 0 (by omega) (by omega) (by omega) (by omega) w)
  have HLN := Lib.hid (show (valsL 0 0).length = 2 from rfl)
  generalize valsL 0 0 = vs at *
  go_enter Try.func8, Try.ntmps8
  go_wp2_with fail
  refine (HVS.out _).mono ?_; rintro e w1 ⟨v1, rfl, hO⟩
  obtain ⟨a1, c1, rfl, _, _⟩ := hO.rd.shape
  have HR := Lib.hid hO.rd
  have HE1 := Lib.hid hO.2
  rw [HLN.out] at HR
  simp only [HLN.out]
  clear hO
  go_wp2_with fail
  have hA : Ext w1 (((w1.alloc (.cells #[.int .i64 1] 3)).alloc (.cells #[.int .i64 2] 3)).alloc (.cells #[.slice a1 2 c1, .int .i64 0, .int .i64 5, .slice (some ⟨w1.heap.size, 0, none⟩) 1 1, .slice a1 2 c1, .int .i64 5, .int .i64 9, .slice (some ⟨w1.heap.size + 1, 0, none⟩) 1 1] 31)) := (((Ext.refl _).alloc _ _).alloc _ _).alloc _ _
  have l1 : RdG (((w1.alloc (.cells #[.int .i64 1] 3)).alloc (.cells #[.int .i64 2] 3)).alloc (.cells #[.slice a1 2 c1, .int .i64 0, .int .i64 5, .slice (some ⟨w1.heap.size, 0, none⟩) 1 1, .slice a1 2 c1, .int .i64 5, .int .i64 9, .slice (some ⟨w1.heap.size + 1, 0, none⟩) 1 1] 31)) (.slice (some ⟨w1.heap.size, 0, none⟩) 1 1) [(1 : Int)] := (rd_lit1I w1 1 3 _ rfl).ext (((Ext.refl _).alloc _ _).alloc _ _)
  have l2 : RdG (((w1.alloc (.cells #[.int .i64 1] 3)).alloc (.cells #[.int .i64 2] 3)).alloc (.cells #[.slice a1 2 c1, .int .i64 0, .int .i64 5, .slice (some ⟨w1.heap.size, 0, none⟩) 1 1, .slice a1 2 c1, .int .i64 5, .int .i64 9, .slice (some ⟨w1.heap.size + 1, 0, none⟩) 1 1] 31)) (.slice (some ⟨w1.heap.size + 1, 0, none⟩) 1 1) [(2 : Int)] := (rd_lit1I (w1.alloc (.cells #[.int .i64 1] 3)) 2 3 _ (alsz _ _).symm).ext ((Ext.refl _).alloc _ _)
  have l3 := rd_litG ((w1.alloc (.cells #[.int .i64 1] 3)).alloc (.cells #[.int .i64 2] 3)) [(⟨⟨a1, 2, c1, some ⟨w1.heap.size, 0, none⟩, 1, 1⟩, ⟨vs, [1]⟩, 0, 5⟩ : TP), ⟨⟨a1, 2, c1, some ⟨w1.heap.size + 1, 0, none⟩, 1, 1⟩, ⟨vs, [2]⟩, 5, 9⟩] #[.slice a1 2 c1, .int .i64 0, .int .i64 5, .slice (some ⟨w1.heap.size, 0, none⟩) 1 1, .slice a1 2 c1, .int .i64 5, .int .i64 9, .slice (some ⟨w1.heap.size + 1, 0, none⟩) 1 1] 31 (w1.heap.size + 1 + 1) 2 (by rw [alsz, alsz]) rfl (by simp) rfl
  have hv := HR.out.ext hA
  generalize (((w1.alloc (.cells #[.int .i64 1] 3)).alloc (.cells #[.int .i64 2] 3)).alloc (.cells #[.slice a1 2 c1, .int .i64 0, .int .i64 5, .slice (some ⟨w1.heap.size, 0, none⟩) 1 1, .slice a1 2 c1, .int .i64 5, .int .i64 9, .slice (some ⟨w1.heap.size + 1, 0, none⟩) 1 1] 31)) = w2 at *
  have HE2 := Lib.hid (HE1.out.trans hA)
  refine (co_prg _ _ w2 l3 (fun p hp => by
    simp only [List.mem_cons, List.not_mem_nil, or_false] at hp
    rcases hp with rfl | rfl
    · exact ⟨hv, l1⟩
    · exact ⟨hv, l2⟩) (by simp) (fun p hp => by
    simp only [List.mem_cons, List.not_mem_nil, or_false] at hp
    have := HLN.out
    rcases hp with rfl | rfl <;> (simp only [List.length_cons, List.length_nil]; omega))).mono ?_
  rintro e w3 ⟨v3, qs, rfl, r1, r2, r3, _, rs, r5⟩
  have hq : tus qs = [⟨⟨vs, []⟩, 0, 9⟩] := IsNf.unique r3 (aw_nf11 vs)
  have HCO := Lib.hid (co_self r3)
  have HR1 := Lib.hid r1
  have HR2 := Lib.hid r2
  have HSM := Lib.hid rs
  have HE3 := Lib.hid (HE2.out.trans r5)
  have hqn : qs.length = 1 := by rw [← tus_len, hq]; rfl
  obtain ⟨aq, cq, rfl, z1, z2⟩ := r1.shape
  have p0 := tus_at qs 0 (by omega)
  simp only [hq, List.getElem_cons_zero, Tu.mk.injEq] at p0
  obtain ⟨g, o, rfl, c0, ca, cb, c3⟩ := rd_T r1 0 (by omega)
  have hx0 := r2 qs[0] (List.getElem_mem _)
  have hm : qs[0].h.m = 0 := by
    obtain ⟨_, _, he, _⟩ := hx0.2.shape
    rw [← p0.1] at he
    injection he
  rw [← p0.2.1] at ca
  rw [← p0.2.2] at cb
  generalize qs[0] = q0 at *
  obtain ⟨⟨xa, xn, xc, xb, xm, xd⟩, xr, qa, qb⟩ := q0
  simp only [Hd.x, Hd.y] at c0 c3 hm
  subst hm
  simp only [Nat.zero_mul, Nat.add_zero] at c0 ca cb c3
  rw [hqn] at HR1 z1
  simp only [hqn]
  unfold maxLen at z2
  have HQN := Lib.hid hqn
  clear l1 l2 l3 hv hA r1 r2 r3 r5 rs hq p0 hqn hx0
  go_wp2_with fail
  refine (isco_prg qs _ w3 HR1.out HR2.out (by rw [HQN.out]; omega) HSM.out).mono ?_; rintro e w4 ⟨b, rfl, hb, hE4⟩
  have hbt : b = true := by rw [hb _ HCO.out]; unfold tuB; simp
  subst hbt
  clear hb
  go_wp2_with fail
  go_ret
  exact ⟨rfl, HE3.out.trans hE4⟩
end Go.Proofs.Ytnckdopphimgoaa
