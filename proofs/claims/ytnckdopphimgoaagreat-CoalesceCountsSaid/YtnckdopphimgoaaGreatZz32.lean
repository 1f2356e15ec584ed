/- Boundaries, by the program and by the reference. -/
import Derived.Test.YtnckdopphimgoaaGreatZz07
import Derived.Test.YtnckdopphimgoaaGreatZz11
import Derived.Test.YtnckdopphimgoaaGreatZz14
import Derived.Test.YtnckdopphimgoaaGreatZz18
import Derived.Test.YtnckdopphimgoaaGreatZz26
import Derived.Test.YtnckdopphimgoaaGreatZz31
namespace Go.Proofs.YtnckdopphimgoaaGreat
open Go.ChangeShapes Go.WideShapes Go.ChangeAt Go.RowKit

/-- the ends of the valid periods, «as» they come -/
def bds (ps : List TP) : List Int := ps.flatMap fun p => if okV p.a p.b = true then [p.a, p.b] else []
theorem bds_next {ps : List TP} {k : Nat} (hk : k < ps.length) : bds (ps.take (k + 1)) = bds (ps.take k) ++ (if okV ps[k].a ps[k].b = true then [ps[k].a, ps[k].b] else []) := by
  unfold bds
  rw [List.take_succ_eq_append_getElem hk, List.flatMap_append]
  simp
theorem bds_len (ps : List TP) : (bds ps).length ≤ 2 * ps.length := by
  unfold bds
  induction ps with
  | nil => simp
  | cons p ps ih =>
    rw [List.flatMap_cons, List.length_append, List.length_cons]
    split
    · simp only [List.length_cons, List.length_nil]; omega
    · simp only [List.length_nil]; omega
theorem bds_mem (ps : List TP) (e : Int) : e ∈ bds ps ↔ ∃ p ∈ prs (tus ps), okP p ∧ (e = p.1 ∨ e = p.2) := by
  unfold bds
  rw [List.mem_flatMap]
  constructor
  · rintro ⟨p, hp, he⟩
    split at he
    · rename_i hk
      refine ⟨(p.a, p.b), List.mem_map.2 ⟨p.tu, List.mem_map.2 ⟨p, hp, rfl⟩, rfl⟩, (okV_iff _ _).1 hk, ?_⟩
      simpa using he
    · cases he
  · rintro ⟨q, hq, hk, he⟩
    obtain ⟨x, hx, rfl⟩ := List.mem_map.1 hq
    obtain ⟨p, hp, rfl⟩ := List.mem_map.1 hx
    refine ⟨p, hp, ?_⟩
    rw [if_pos ((okV_iff _ _).2 hk)]
    simpa using he
def BdR (w : World) (ps : List TP) (u i : Value) (wr : World) : Prop := ∃ k : Nat, k ≤ ps.length ∧ i = .int .i64 k ∧ OwnG tI.e w wr u (bds (ps.take k))
def BdQ (w : World) (ps : List TP) (u i : Value) (wr : World) : Prop := ∃ (k : Nat) (os : List Int), k ≤ ps.length ∧ i = .int .i64 k ∧ OwnG tI.e w wr u os ∧ Hid (os.Pairwise (· < ·)) ∧ Hid (∀ e, e ∈ os ↔ e ∈ bds (ps.take k)) ∧ os.length ≤ 2 * k
/-- the boundaries -/
def BdP (ps : List TP) (w : World) (e : Ending) (w' : World) : Prop := ∃ v' pts, e = .returned v' ∧ RdG w' v' pts ∧ IsBd (prs (tus ps)) pts ∧ Ext w w'
def BdO (ps : List TP) (w : World) (e : Ending) (w' : World) : Prop := ∃ v' pts, e = .returned v' ∧ OwnG tI.e w w' v' pts ∧ IsBd (prs (tus ps)) pts ∧ pts.length ≤ 2 * ps.length
theorem Lib_compact_le (l : List Int) : (Lib.compact l).length ≤ l.length := by unfold Lib.compact Lib.compactUpTo; rw [List.length_map]; exact Nat.le_trans (List.length_filter_le _ _) (by simp)
set_option maxHeartbeats 8000000 in
set_option maxRecDepth 100000 in
theorem bounds_ref (ps : List TP) (v : Value) (w : World) (h : RdG w v ps) (hl : ps.length ≤ 400) : Calls Tryz.prog 41 #[v] w (BdP ps w) := by
  obtain ⟨ad, cap, rfl, h1, h2⟩ := h.shape
  have H := Lib.hid h
  clear h
  unfold maxLen at h2
  obtain ⟨n, hn⟩ : ∃ n, n = ps.length := ⟨_, rfl⟩
  have HN := Lib.hid hn
  rw [← hn] at H h1 hl ⊢
  clear hn
  go_enter Tryz.func41, Tryz.ntmps41
  go_wp2_with fail
  go_loopw [3, 8] (BdQ w ps) (fun _ i _ => n - (intOf i).toNat)
  case atStart => exact ⟨0, [], Nat.zero_le _, rfl, OwnG.nil _ _ _ (Ext.refl _), Lib.hid List.Pairwise.nil, Lib.hid (fun e => by simp [bds]), Nat.zero_le _⟩
  case round =>
    obtain ⟨k, os, hk, rfl, hO, HAS, HME, hol⟩ := hrel
    have hkn : k ≤ n := by rw [HN.out]; exact hk
    by_cases hlt : k < n
    · have hlt' : k < ps.length := by rw [← HN.out]; exact hlt
      obtain ⟨g, o, rfl, c0', c1', c2', c3'⟩ := rd_T H.out k hlt'
      have c0 := hO.2.keeps c0'
      have c1 := hO.2.keeps c1'
      have c2 := hO.2.keeps c2'
      have c3 := hO.2.keeps c3'
      clear c0' c1' c2' c3'
      have HEN := Lib.hid (bds_next hlt')
      have hi0 : (0 : Int) ≤ (k : Int) := by omega
      have hi1 : (k : Int) < (n : Int) := by omega
      generalize ps[k] = x at *
      obtain ⟨⟨xa, xn, xc, xb, xm, xd⟩, xr, pa, pb⟩ := x
      simp only [Hd.x, Hd.y] at c0 c1 c2 c3 HEN
      obtain ⟨b0, b1, b2, b3⟩ := box4 wr (.slice xa xn xc) (.int .i64 pa) (.int .i64 pb) (.slice xb xm xd) 42
      have hE0 : Ext wr (wr.alloc (.cells #[.slice xa xn xc, .int .i64 pa, .int .i64 pb, .slice xb xm xd] 42)) := (Ext.refl wr).alloc _ _
      have HO := Lib.hid hO
      clear hO
      cases hb : okV pa pb with
      | true =>
        have HB := Lib.hid hb
        have HX := Lib.hid (show bds (ps.take (k + 1)) = bds (ps.take k) ++ [pa, pb] by rw [HEN.out, if_pos hb])
        clear hb HEN
        go_wp2_with fail
        generalize wr.alloc (.cells #[.slice xa xn xc, .int .i64 pa, .int .i64 pb, .slice xb xm xd] 42) = w0 at *
        refine (vp_yes pa pb _ HB.out).mono ?_; rintro e w1 ⟨rfl, hg⟩
        have hE1 := ext_of_grown hg
        have d0 := hE1.keeps b0
        have d1 := hE1.keeps b1
        have d2 := hE1.keeps b2
        have d3 := hE1.keeps b3
        have hz : wr.heap.size < w1.heap.size := World.block_lt_of_cell? _ _ d0
        have HE := Lib.hid (hE0.trans hE1)
        clear b0 b1 b2 b3 c0 c1 c2 c3 hg hE0 hE1
        go_wp2_with fail
        refine (ml_ref os [pa, pb] _ _ _ (HO.out.rd.ext (HE.out.trans ((Ext.refl w1).alloc _ _))) (rd_litG w1 [pa, pb] #[.int .i64 pa, .int .i64 pb] 3 _ 2 rfl rfl (by simp) rfl) (by omega) (by simp)).mono ?_; rintro e w5 ⟨v5, cs, rfl, hO5, ha5, hm5, hl5⟩
        have HO5 := Lib.hid (hO5.base (HO.out.2.trans (HE.out.trans ((Ext.refl w1).alloc #[.int .i64 pa, .int .i64 pb] 3))))
        have HA5 := Lib.hid (show cs.Pairwise (· < ·) from ha5)
        have HM5 := Lib.hid (show ∀ e, e ∈ cs ↔ e ∈ bds (ps.take (k + 1)) from fun e => by rw [hm5, HME.out, HX.out, List.mem_append])
        have HL5 := Lib.hid (show cs.length ≤ 2 * (k + 1) by simp at hl5; omega)
        clear hO5 ha5 hm5 hl5 d0 d1 d2 d3
        go_wp2_with fail
        go_roundw
        case rel => exact ⟨k + 1, cs, hlt', by go_num, HO5.out, HA5, HM5, HL5.out⟩
        case measure => simp [intOf]; omega
      | false =>
        have HB := Lib.hid hb
        have HX := Lib.hid (show bds (ps.take (k + 1)) = bds (ps.take k) by rw [HEN.out, if_neg (by rw [hb]; decide), List.append_nil])
        clear hb HEN
        go_wp2_with fail
        refine (vp_no pa pb _ HB.out).mono ?_; rintro e w1 ⟨rfl, hg⟩
        have HE := Lib.hid (hE0.trans (ext_of_grown hg))
        clear b0 b1 b2 b3 c0 c1 c2 c3 hg hE0
        go_wp2_with fail
        go_roundw
        case rel => exact ⟨k + 1, os, hlt', by go_num, HO.out.ext HE.out, HAS, Lib.hid (fun e => by rw [HX.out]; exact HME.out e), by omega⟩
        case measure => simp [intOf]; omega
    · have hke : k = n := by omega
      have hall : ps.take k = ps := by rw [List.take_of_length_le]; rw [← HN.out, hke]; exact Nat.le_refl _
      have HM := Lib.hid (show ∀ e, e ∈ os ↔ e ∈ bds ps from fun e => by have := HME.out e; rwa [hall] at this)
      have HO := Lib.hid hO
      clear hO hall
      go_wp2_with fail
      go_ret
      exact ⟨_, os, rfl, HO.out.rd, ⟨HAS.out, fun e => (HM.out e).trans (bds_mem ps e)⟩, HO.out.2⟩
end Go.Proofs.YtnckdopphimgoaaGreat
/- The laws' sanity check of coalescing. -/
namespace Go.Proofs.YtnckdopphimgoaaGreat
open Go.ChangeShapes Go.WideShapes Go.ChangeAt Go.RowKit

theorem aw_nf11 (vs : List V) : IsCo [⟨⟨vs, [1]⟩, 0, 5⟩, ⟨⟨vs, [2]⟩, 5, 9⟩] [⟨⟨vs, []⟩, 0, 9⟩] := by
  show IsNf (ats [⟨⟨vs, []⟩, 0, 5⟩, ⟨⟨vs, []⟩, 5, 9⟩]) [⟨⟨vs, []⟩, 0, 9⟩]
  generalize (⟨vs, []⟩ : R) = r
  have hp : ∀ s a b c d, per [⟨r, a, b⟩, ⟨r, c, d⟩] s = if r = s then [(a, b), (c, d)] else [] := by
    intro s a b c d
    rw [per_cons, per_cons]
    by_cases e : r = s
    · rw [if_pos e, if_pos e, if_pos e]; rfl
    · rw [if_neg e, if_neg e, if_neg e]; rfl
  have hq : ∀ s a b, per [⟨r, a, b⟩] s = if r = s then [(a, b)] else [] := by
    intro s a b
    rw [per_cons]
    by_cases e : r = s
    · rw [if_pos e, if_pos e]; rfl
    · rw [if_neg e, if_neg e]; rfl
  refine ⟨List.pairwise_singleton _ _, fun s => ?_, fun s t => ?_⟩
  · rw [hq]
    by_cases e : r = s
    · rw [if_pos e]
      refine ⟨fun p hp => ?_, fun p hp q hq => ?_⟩
      · rw [List.mem_singleton.1 hp]
        unfold okP; omega
      · rw [List.mem_singleton.1 hp, List.mem_singleton.1 hq]
        unfold Nst; omega
    · rw [if_neg e]; exact Lam.nil
  · unfold ats
    rw [hp, hq]
    by_cases e : r = s
    · rw [if_pos e, if_pos e]
      rw [cov_cons, cov_cons, cov_cons]
      have e1 : incB 0 9 t = true ↔ 0 ≤ t ∧ t < 9 := by rw [incB_yes]; omega
      have e3 : incB 0 5 t = true ↔ 0 ≤ t ∧ t < 5 := by rw [incB_yes]; omega
      have e4 : incB 5 9 t = true ↔ 5 ≤ t ∧ t < 9 := by rw [incB_yes]; omega
      simp only [e1, e3, e4]
      by_cases c1 : 0 ≤ t <;> by_cases c2 : t < 5 <;> by_cases c3 : t < 9
      all_goals (repeat' split) <;> omega
    · rw [if_neg e, if_neg e]
set_option maxHeartbeats 8000000 in
set_option maxRecDepth 100000 in
theorem awake_law (w : World) : Calls Tryz.prog 6 #[] w fun e w' => e = .returned (.bool true) ∧ Ext w w' := by
  have HVS := Lib.hid (fun w => valsx 0 0 (by omega) (by omega) (by omega) (by omega) w)
  have HLN := Lib.hid (show (valsL 0 0).length = 2 from rfl)
  generalize valsL 0 0 = vs at *
  go_enter Tryz.func6, Tryz.ntmps6
  go_wp2_with fail
  refine (HVS.out _).mono ?_; rintro e w1 ⟨v1, rfl, hO⟩
  obtain ⟨a1, c1, rfl, _, _⟩ := hO.rd.shape
  have HR := Lib.hid hO.rd
  have HE1 := Lib.hid hO.2
  rw [HLN.out] at HR
  simp only [HLN.out]
  clear hO
  go_wp2_with fail
  have hA : Ext w1 (((w1.alloc (.cells #[.int .i64 1] 3)).alloc (.cells #[.int .i64 2] 3)).alloc (.cells #[.slice a1 2 c1, .int .i64 0, .int .i64 5, .slice (some ⟨w1.heap.size, 0, none⟩) 1 1, .slice a1 2 c1, .int .i64 5, .int .i64 9, .slice (some ⟨w1.heap.size + 1, 0, none⟩) 1 1] 42)) := (((Ext.refl _).alloc _ _).alloc _ _).alloc _ _
  have l1 : RdG (((w1.alloc (.cells #[.int .i64 1] 3)).alloc (.cells #[.int .i64 2] 3)).alloc (.cells #[.slice a1 2 c1, .int .i64 0, .int .i64 5, .slice (some ⟨w1.heap.size, 0, none⟩) 1 1, .slice a1 2 c1, .int .i64 5, .int .i64 9, .slice (some ⟨w1.heap.size + 1, 0, none⟩) 1 1] 42)) (.slice (some ⟨w1.heap.size, 0, none⟩) 1 1) [(1 : Int)] := (rd_lit1I w1 1 3 _ rfl).ext (((Ext.refl _).alloc _ _).alloc _ _)
  have l2 : RdG (((w1.alloc (.cells #[.int .i64 1] 3)).alloc (.cells #[.int .i64 2] 3)).alloc (.cells #[.slice a1 2 c1, .int .i64 0, .int .i64 5, .slice (some ⟨w1.heap.size, 0, none⟩) 1 1, .slice a1 2 c1, .int .i64 5, .int .i64 9, .slice (some ⟨w1.heap.size + 1, 0, none⟩) 1 1] 42)) (.slice (some ⟨w1.heap.size + 1, 0, none⟩) 1 1) [(2 : Int)] := (rd_lit1I (w1.alloc (.cells #[.int .i64 1] 3)) 2 3 _ (alsz _ _).symm).ext ((Ext.refl _).alloc _ _)
  have l3 := rd_litG ((w1.alloc (.cells #[.int .i64 1] 3)).alloc (.cells #[.int .i64 2] 3)) [(⟨⟨a1, 2, c1, some ⟨w1.heap.size, 0, none⟩, 1, 1⟩, ⟨vs, [1]⟩, 0, 5⟩ : TP), ⟨⟨a1, 2, c1, some ⟨w1.heap.size + 1, 0, none⟩, 1, 1⟩, ⟨vs, [2]⟩, 5, 9⟩] #[.slice a1 2 c1, .int .i64 0, .int .i64 5, .slice (some ⟨w1.heap.size, 0, none⟩) 1 1, .slice a1 2 c1, .int .i64 5, .int .i64 9, .slice (some ⟨w1.heap.size + 1, 0, none⟩) 1 1] 42 (w1.heap.size + 1 + 1) 2 (by rw [alsz, alsz]) rfl (by simp) rfl
  have hv := HR.out.ext hA
  generalize (((w1.alloc (.cells #[.int .i64 1] 3)).alloc (.cells #[.int .i64 2] 3)).alloc (.cells #[.slice a1 2 c1, .int .i64 0, .int .i64 5, .slice (some ⟨w1.heap.size, 0, none⟩) 1 1, .slice a1 2 c1, .int .i64 5, .int .i64 9, .slice (some ⟨w1.heap.size + 1, 0, none⟩) 1 1] 42)) = w2 at *
  have HE2 := Lib.hid (HE1.out.trans hA)
  refine (co_prg _ _ w2 l3 (fun p hp => by
    simp only [List.mem_cons, List.not_mem_nil, or_false] at hp
    rcases hp with rfl | rfl
    · exact ⟨hv, l1⟩
    · exact ⟨hv, l2⟩) (by simp) (fun p hp => by
    simp only [List.mem_cons, List.not_mem_nil, or_false] at hp
    have := HLN.out
    rcases hp with rfl | rfl <;> (simp only [List.length_cons, List.length_nil]; omega))).mono ?_
  rintro e w3 ⟨v3, qs, rfl, r1, r2, r3, _, rs, r5⟩
  have hq : tus qs = [⟨⟨vs, []⟩, 0, 9⟩] := IsNf.unique r3 (aw_nf11 vs)
  have HCO := Lib.hid (co_self r3)
  have HR1 := Lib.hid r1
  have HR2 := Lib.hid r2
  have HSM := Lib.hid rs
  have HE3 := Lib.hid (HE2.out.trans r5)
  have hqn : qs.length = 1 := by rw [← tus_len, hq]; rfl
  obtain ⟨aq, cq, rfl, z1, z2⟩ := r1.shape
  have p0 := tus_at qs 0 (by omega)
  simp only [hq, List.getElem_cons_zero, Tu.mk.injEq] at p0
  obtain ⟨g, o, rfl, c0, ca, cb, c3⟩ := rd_T r1 0 (by omega)
  have hx0 := r2 qs[0] (List.getElem_mem _)
  have hm : qs[0].h.m = 0 := by
    obtain ⟨_, _, he, _⟩ := hx0.2.shape
    rw [← p0.1] at he
    injection he
  rw [← p0.2.1] at ca
  rw [← p0.2.2] at cb
  generalize qs[0] = q0 at *
  obtain ⟨⟨xa, xn, xc, xb, xm, xd⟩, xr, qa, qb⟩ := q0
  simp only [Hd.x, Hd.y] at c0 c3 hm
  subst hm
  simp only [Nat.zero_mul, Nat.add_zero] at c0 ca cb c3
  rw [hqn] at HR1 z1
  simp only [hqn]
  unfold maxLen at z2
  have HQN := Lib.hid hqn
  clear l1 l2 l3 hv hA r1 r2 r3 r5 rs hq p0 hqn hx0
  go_wp2_with fail
  refine (isco_prg qs _ w3 HR1.out HR2.out (by rw [HQN.out]; omega) HSM.out).mono ?_; rintro e w4 ⟨b, rfl, hb, hE4⟩
  have hbt : b = true := by rw [hb _ HCO.out]; unfold tuB; simp
  subst hbt
  clear hb
  go_wp2_with fail
  go_ret
  exact ⟨rfl, HE3.out.trans hE4⟩
end Go.Proofs.YtnckdopphimgoaaGreat
/- The reference's levels in plain lists: insertion into a sorted row, counts; a row of the call's own written in place. -/
namespace Go.Proofs.YtnckdopphimgoaaGreat
open Go.ChangeShapes Go.WideShapes Go.ChangeAt Go.RowKit

def ltP2 (p q : Int × Int) : Prop := p.1 < q.1 ∨ (p.1 = q.1 ∧ p.2 < q.2)
/-- a row with a hole at j, filled with x -/
def insX (M : List (Int × Int)) (j : Nat) (x : Int × Int) : List (Int × Int) := M.take j ++ x :: M.drop j
theorem insX_len (M : List (Int × Int)) (j : Nat) (x : Int × Int) : (insX M j x).length = M.length + 1 := by
  unfold insX; rw [List.length_append, List.length_cons, List.length_take, List.length_drop]; omega
theorem insX_start (M : List (Int × Int)) (p : Int × Int) : M ++ [p] = insX M M.length p := by unfold insX; simp
theorem insX_set {M : List (Int × Int)} {j : Nat} (hj : j ≤ M.length) (x y : Int × Int) : (insX M j x).set j y = insX M j y := by
  unfold insX
  rw [List.set_append, if_neg (by rw [List.length_take]; omega), List.length_take, Nat.min_eq_left hj, Nat.sub_self]
  rfl
theorem insX_at {M : List (Int × Int)} {j : Nat} (hj : j < M.length) (x : Int × Int) : (insX M (j + 1) x)[j]'(by rw [insX_len]; omega) = M[j] := by
  unfold insX
  rw [List.getElem_append_left (by rw [List.length_take]; omega), List.getElem_take]
theorem insX_shift {M : List (Int × Int)} {j : Nat} (hj : j < M.length) : insX M (j + 1) M[j] = insX M j M[j] := by
  unfold insX
  rw [List.take_succ_eq_append_getElem hj, List.drop_eq_getElem_cons hj, List.append_assoc]
  rfl
theorem insX_perm (M : List (Int × Int)) (j : Nat) (p : Int × Int) : (insX M j p).Perm (M ++ [p]) := by
  unfold insX
  have h1 : (M.take j ++ p :: M.drop j).Perm (p :: (M.take j ++ M.drop j)) := List.perm_middle
  rw [List.take_append_drop] at h1
  exact h1.trans (List.perm_append_singleton p M).symm
theorem insX_sorted {M : List (Int × Int)} {j : Nat} {p : Int × Int} (hM : M.Pairwise leP2) (hj : j ≤ M.length) (hd : ∀ q ∈ M.drop j, ltP2 p q) (hl : j = 0 ∨ ∃ h : j - 1 < M.length, ¬ ltP2 p M[j - 1]) : (insX M j p).Pairwise leP2 := by
  unfold insX
  have hs : (M.take j ++ M.drop j).Pairwise leP2 := by rw [List.take_append_drop]; exact hM
  obtain ⟨s1, s2, s3⟩ := List.pairwise_append.1 hs
  refine List.pairwise_append.2 ⟨s1, List.pairwise_cons.2 ⟨fun q hq => ?_, s2⟩, fun a ha b hb => ?_⟩
  · have := hd q hq; unfold ltP2 leP2 at *; omega
  · rcases List.mem_cons.1 hb with rfl | hb
    · rcases hl with rfl | ⟨h1, h2⟩
      · simp at ha
      · obtain ⟨i, hi, rfl⟩ := List.mem_iff_getElem.1 ha
        rw [List.length_take] at hi
        rw [List.getElem_take]
        by_cases e : i = j - 1
        · subst e; unfold ltP2 leP2 at *; omega
        · have h3 := List.pairwise_iff_getElem.1 hM i (j - 1) (by omega) h1 (by omega)
          unfold ltP2 leP2 at *; omega
    · exact s3 a ha b hb
theorem insX_next {M : List (Int × Int)} {j : Nat} {p : Int × Int} (hj : j < M.length) (hd : ∀ q ∈ M.drop (j + 1), ltP2 p q) (h : ltP2 p M[j]) : ∀ q ∈ M.drop j, ltP2 p q := by
  intro q hq
  rw [List.drop_eq_getElem_cons hj] at hq
  rcases List.mem_cons.1 hq with rfl | hq
  · exact h
  · exact hd q hq
theorem own_putG {α : Type} [Enc α] {e : TypeId} {W w : World} {g n cap : Nat} {l : List α} (h : OwnG e W w (.slice (some ⟨g, 0, none⟩) n cap) l) (i : Nat) (x : α) (hi : i < l.length) : OwnG e W (putAll w g (i * Enc.sz α) (Enc.cells x)) (.slice (some ⟨g, 0, none⟩) n cap) (l.set i x) ∧ w.grownBy (putAll w g (i * Enc.sz α) (Enc.cells x)) (some g) := by
  have hg := (h.blk g rfl).1
  obtain rfl := h.rd.len.1
  obtain ⟨h1, h2⟩ := putAll_owns (Enc.cells x) w (i * Enc.sz α) (cellsG l) h.1
  refine ⟨⟨?_, ext_grownBy h.2 h2 (fun k hk => by injection hk with hk; subst hk; exact hg)⟩, h2⟩
  rw [cellsG_set l i x hi] at h1
  rw [List.length_set]
  exact h1
/-- the same at a row of periods -/
theorem put_per {W w : World} {g n cap : Nat} {v : Value} {l m : List (Int × Int)} (h : Duo tPe.e tPe.e W w (.slice (some ⟨g, 0, none⟩) n cap) v l m) (i : Nat) (a b : Int) (hi : i < l.length) : Duo tPe.e tPe.e W ((w.setCell ⟨g, i * 2, none⟩ (.int .i64 a)).setCell ⟨g, i * 2 + 1, none⟩ (.int .i64 b)) (.slice (some ⟨g, 0, none⟩) n cap) v (l.set i (a, b)) m ∧ w.grownBy ((w.setCell ⟨g, i * 2, none⟩ (.int .i64 a)).setCell ⟨g, i * 2 + 1, none⟩ (.int .i64 b)) (some g) := by
  obtain ⟨h1, h2⟩ := own_putG h.l i (a, b) hi
  exact ⟨h.left h1 h2 (Loc.refl _ _), h2⟩
theorem cov_step {ps : List TP} {j : Nat} (hj : j < ps.length) (t : Int) : cov (prs (tus (ps.take (j + 1)))) t = cov (prs (tus (ps.take j))) t + (if incB ps[j].a ps[j].b t = true then 1 else 0) := by
  rw [List.take_succ_eq_append_getElem hj]
  unfold prs
  rw [tus_app, List.map_append, cov_app]
  show _ + cov [(ps[j].a, ps[j].b)] t = _
  rw [cov_cons, cov_nil, Nat.zero_add]
theorem prs_len (ps : List TP) : (prs (tus ps)).length = ps.length := by unfold prs; rw [List.length_map, tus_len]
/-- a list without repetitions is not longer than one that holds its members -/
theorem nodup_le {α : Type} [BEq α] [LawfulBEq α] : ∀ (l m : List α), l.Nodup → (∀ x ∈ l, x ∈ m) → l.length ≤ m.length
  | [], _, _, _ => Nat.zero_le _
  | x :: l, m, hn, hs => by
    obtain ⟨h1, h2⟩ := List.nodup_cons.1 hn
    have hx := hs x (by simp)
    have := nodup_le l (m.erase x) h2 fun y hy => (List.mem_erase_of_ne (fun e => h1 (by rw [← e]; exact hy))).2 (hs y (by simp [hy]))
    rw [List.length_erase_of_mem hx] at this
    have : 0 < m.length := List.length_pos_of_mem hx
    rw [List.length_cons]; omega
/-- the normal form is not longer than what it is the normal form of -/
theorem nf_le {m s : List (Int × Int)} (h : NF m) (e : ∀ t, memB m t = memB s t) : m.length ≤ s.length := by
  have h1 : (m.map Prod.fst).length ≤ (s.map Prod.fst).length := by
    refine nodup_le _ _ ?_ fun a ha => ?_
    · have hp : (m.map Prod.fst).Pairwise (· < ·) := by
        rw [List.pairwise_iff_getElem]
        intro i j hi hj hij
        rw [List.length_map] at hi hj
        rw [List.getElem_map, List.getElem_map]
        have h2 := List.pairwise_iff_getElem.1 h.2 i j hi hj hij
        have := (h.1 _ (List.getElem_mem hi)).2.1
        omega
      exact hp.imp fun h => by omega
    · obtain ⟨p, hp, rfl⟩ := List.mem_map.1 ha
      have hv := h.1 p hp
      have hin : memB s p.1 = true := by rw [← e]; exact memB_iff.2 ⟨p, hp, hv, Int.le_refl _, hv.2.1⟩
      obtain ⟨q, hq, q1, q2, q3⟩ := memB_iff.1 hin
      by_cases c : q.1 = p.1
      · exact List.mem_map.2 ⟨q, hq, c⟩
      · exfalso
        have h2 : memB m (p.1 - 1) = true := by rw [e]; exact memB_iff.2 ⟨q, hq, q1, by omega, by omega⟩
        obtain ⟨z, hz, z1, z2, z3⟩ := memB_iff.1 h2
        rcases nf_gap h hp hz with rfl | g | g <;> omega
  rwa [List.length_map, List.length_map] at h1
theorem pcs_len (f : Int → Nat) (pts : List Int) (k n : Nat) : (pcs f pts k n).length ≤ n := by
  unfold pcs
  refine Nat.le_trans (List.length_filterMap_le _ _) ?_
  rw [List.length_range]; exact Nat.le_refl _
theorem memB_pcs_nil (f : Int → Nat) (pts : List Int) (k : Nat) : pcs f pts k 0 = [] := rfl
end Go.Proofs.YtnckdopphimgoaaGreat
