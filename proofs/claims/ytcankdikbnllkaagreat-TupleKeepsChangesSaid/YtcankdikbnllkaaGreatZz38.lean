/- The laws' sanity check of tuples. -/
import Derived.Test.YtcankdikbnllkaaGreatZz13
import Derived.Test.YtcankdikbnllkaaGreatZz15
import Derived.Test.YtcankdikbnllkaaGreatZz19
import Derived.Test.YtcankdikbnllkaaGreatZz25
import Derived.Test.YtcankdikbnllkaaGreatZz35
import Derived.Test.YtcankdikbnllkaaGreatZz36
import Derived.Test.YtcankdikbnllkaaGreatZz37
namespace Go.Proofs.YtcankdikbnllkaaGreat
open Go.ChangeShapes Go.WideShapes Go.ChangeAt Go.RowKit

def valsL (x y : Int) : List V := [valW 0 x, valW 1 y]
set_option maxHeartbeats 2000000 in
theorem valsx (x y : Int) (hx0 : 0 ≤ x) (hx1 : x ≤ 65535) (hy0 : 0 ≤ y) (hy1 : y ≤ 65535) (w : World) : Calls Tryz.prog 30 #[.int .u16 x, .int .u16 y] w fun e w' => ∃ v, e = .returned v ∧ OwnG tV.e w w' v (valsL x y) := by
  have H0 := Lib.hid (valx0 x hx0 hx1)
  have H1 := Lib.hid (valx1 y hy0 hy1)
  have HL := Lib.hid (show valsL x y = [valW 0 x, valW 1 y] from rfl)
  generalize valW 0 x = a at *
  generalize valW 1 y = b at *
  obtain ⟨ak, an, az⟩ := a
  obtain ⟨bk, bn, bz⟩ := b
  clear hx0 hx1 hy0 hy1
  generalize valsL x y = l at *
  go_enter Tryz.func30, Tryz.ntmps30
  go_wp2_with fail
  refine (H0.out _).mono ?_; rintro e w1 ⟨rfl, hE⟩
  go_wp2_with fail
  refine (H1.out _).mono ?_; rintro e w2 ⟨rfl, hE2⟩
  have hE3 := hE.trans hE2
  go_wp2_with fail
  go_ret
  exact ⟨_, rfl, by rw [HL.out]; exact own_litB _ hE3 [(⟨ak, an, az⟩ : V), ⟨bk, bn, bz⟩] _ _ _ rfl rfl (by simp) rfl⟩
theorem aw_cov (t : Int) : cov [(0, 9), (3, 5)] t = cov [(0, 5), (3, 9)] t := by
  rw [cov_cons, cov_cons, cov_cons, cov_cons]
  have e1 : incB 0 9 t = true ↔ 0 ≤ t ∧ t < 9 := by rw [incB_yes]; omega
  have e2 : incB 3 5 t = true ↔ 3 ≤ t ∧ t < 5 := by rw [incB_yes]; omega
  have e3 : incB 0 5 t = true ↔ 0 ≤ t ∧ t < 5 := by rw [incB_yes]; omega
  have e4 : incB 3 9 t = true ↔ 3 ≤ t ∧ t < 9 := by rw [incB_yes]; omega
  simp only [e1, e2, e3, e4]
  by_cases c1 : 0 ≤ t <;> by_cases c2 : t < 3 <;> by_cases c3 : t < 5 <;> by_cases c4 : t < 9
  all_goals (repeat' split) <;> omega
theorem aw_nf (r : R) : IsNf (ats [⟨r, 0, 5⟩, ⟨r, 3, 9⟩]) [⟨r, 0, 9⟩, ⟨r, 3, 5⟩] := by
  have hp : ∀ s a b c d, per [⟨r, a, b⟩, ⟨r, c, d⟩] s = if r = s then [(a, b), (c, d)] else [] := by
    intro s a b c d
    rw [per_cons, per_cons]
    by_cases e : r = s
    · rw [if_pos e, if_pos e, if_pos e]; rfl
    · rw [if_neg e, if_neg e, if_neg e]; rfl
  refine ⟨List.pairwise_cons.2 ⟨fun y hy => ?_, List.pairwise_singleton _ _⟩, fun s => ?_, fun s t => ?_⟩
  · rw [List.mem_singleton.1 hy]
    exact Or.inr ⟨rfl, by unfold leP2; simp only; omega⟩
  · rw [hp]
    by_cases e : r = s
    · rw [if_pos e]
      refine ⟨fun p hp => ?_, fun p hp q hq => ?_⟩
      · simp only [List.mem_cons, List.not_mem_nil, or_false] at hp
        rcases hp with rfl | rfl <;> (unfold okP; omega)
      · simp only [List.mem_cons, List.not_mem_nil, or_false] at hp hq
        rcases hp with rfl | rfl <;> rcases hq with rfl | rfl <;> (unfold Nst; omega)
    · rw [if_neg e]; exact Lam.nil
  · unfold ats
    rw [hp, hp]
    by_cases e : r = s
    · rw [if_pos e, if_pos e]; exact aw_cov t
    · rw [if_neg e, if_neg e]
theorem aw_bd (r : R) : IsBd (prs [⟨r, 0, 9⟩, ⟨r, 3, 5⟩]) [0, 3, 5, 9] := by
  refine ⟨by decide, fun e => ?_⟩
  unfold prs okP
  simp
  omega
theorem aw_sl (r : R) : (sl [⟨r, 0, 9⟩, ⟨r, 3, 5⟩] 4).length = 2 := by
  unfold sl
  rw [sortR_len, List.length_map, List.filter_cons_of_pos (by show incB 0 9 4 = true; decide), List.filter_cons_of_pos (by show incB 3 5 4 = true; decide)]
  rfl
set_option maxHeartbeats 8000000 in
set_option maxRecDepth 100000 in
theorem awake_law (w : World) : Calls Tryz.prog 12 #[] w fun e w' => e = .returned (.bool true) ∧ Ext w w' := by
  have HVD := Lib.hid (show vldT ⟨⟨valsL 0 0, [1]⟩, 0, 9⟩ = true by decide)
  have HVS := Lib.hid (fun w => valsx 0 0 (by omega) (by omega) (by omega) (by omega) w)
  have HLN := Lib.hid (show (valsL 0 0).length = 2 from rfl)
  generalize valsL 0 0 = vs at *
  go_enter Tryz.func12, Tryz.ntmps12
  go_wp2_with fail
  refine (HVS.out _).mono ?_; rintro e w1 ⟨v1, rfl, hO⟩
  obtain ⟨a1, c1, rfl, _, _⟩ := hO.rd.shape
  have HR := Lib.hid hO.rd
  have HE1 := Lib.hid hO.2
  rw [HLN.out] at HR
  simp only [HLN.out]
  clear hO
  go_wp2_with fail
  have hA : Ext w1 (((w1.alloc (.cells #[.int .i64 1] 3)).alloc (.cells #[.int .i64 1] 3)).alloc (.cells #[.slice a1 2 c1, .int .i64 0, .int .i64 5, .slice (some ⟨w1.heap.size, 0, none⟩) 1 1, .slice a1 2 c1, .int .i64 3, .int .i64 9, .slice (some ⟨w1.heap.size + 1, 0, none⟩) 1 1] 32)) := (((Ext.refl _).alloc _ _).alloc _ _).alloc _ _
  have l1 : RdG (((w1.alloc (.cells #[.int .i64 1] 3)).alloc (.cells #[.int .i64 1] 3)).alloc (.cells #[.slice a1 2 c1, .int .i64 0, .int .i64 5, .slice (some ⟨w1.heap.size, 0, none⟩) 1 1, .slice a1 2 c1, .int .i64 3, .int .i64 9, .slice (some ⟨w1.heap.size + 1, 0, none⟩) 1 1] 32)) (.slice (some ⟨w1.heap.size, 0, none⟩) 1 1) [(1 : Int)] := (rd_lit1I w1 1 3 _ rfl).ext (((Ext.refl _).alloc _ _).alloc _ _)
  have l2 : RdG (((w1.alloc (.cells #[.int .i64 1] 3)).alloc (.cells #[.int .i64 1] 3)).alloc (.cells #[.slice a1 2 c1, .int .i64 0, .int .i64 5, .slice (some ⟨w1.heap.size, 0, none⟩) 1 1, .slice a1 2 c1, .int .i64 3, .int .i64 9, .slice (some ⟨w1.heap.size + 1, 0, none⟩) 1 1] 32)) (.slice (some ⟨w1.heap.size + 1, 0, none⟩) 1 1) [(1 : Int)] := (rd_lit1I (w1.alloc (.cells #[.int .i64 1] 3)) 1 3 _ (alsz _ _).symm).ext ((Ext.refl _).alloc _ _)
  have l3 := rd_litG ((w1.alloc (.cells #[.int .i64 1] 3)).alloc (.cells #[.int .i64 1] 3)) [(⟨⟨a1, 2, c1, some ⟨w1.heap.size, 0, none⟩, 1, 1⟩, ⟨vs, [1]⟩, 0, 5⟩ : TP), ⟨⟨a1, 2, c1, some ⟨w1.heap.size + 1, 0, none⟩, 1, 1⟩, ⟨vs, [1]⟩, 3, 9⟩] #[.slice a1 2 c1, .int .i64 0, .int .i64 5, .slice (some ⟨w1.heap.size, 0, none⟩) 1 1, .slice a1 2 c1, .int .i64 3, .int .i64 9, .slice (some ⟨w1.heap.size + 1, 0, none⟩) 1 1] 32 (w1.heap.size + 1 + 1) 2 (by rw [alsz, alsz]) rfl (by simp) rfl
  have hv := HR.out.ext hA
  generalize (((w1.alloc (.cells #[.int .i64 1] 3)).alloc (.cells #[.int .i64 1] 3)).alloc (.cells #[.slice a1 2 c1, .int .i64 0, .int .i64 5, .slice (some ⟨w1.heap.size, 0, none⟩) 1 1, .slice a1 2 c1, .int .i64 3, .int .i64 9, .slice (some ⟨w1.heap.size + 1, 0, none⟩) 1 1] 32)) = w2 at *
  have HE2 := Lib.hid (HE1.out.trans hA)
  refine (norm_prg _ _ w2 l3 (fun p hp => by
    simp only [List.mem_cons, List.not_mem_nil, or_false] at hp
    rcases hp with rfl | rfl
    · exact ⟨hv, l1⟩
    · exact ⟨hv, l2⟩) (by simp) (fun p hp => by
    simp only [List.mem_cons, List.not_mem_nil, or_false] at hp
    have := HLN.out
    rcases hp with rfl | rfl <;> (simp only [List.length_cons, List.length_nil]; omega))).mono ?_
  rintro e w3 ⟨v3, qs, rfl, r1, r2, r3, _, r5⟩
  have hq : tus qs = [⟨⟨vs, [1]⟩, 0, 9⟩, ⟨⟨vs, [1]⟩, 3, 5⟩] := r3.unique (aw_nf ⟨vs, [1]⟩)
  have HQ := Lib.hid hq
  have HR1 := Lib.hid r1
  have HR2 := Lib.hid r2
  have HE3 := Lib.hid (HE2.out.trans r5)
  have hqn : qs.length = 2 := by rw [← tus_len, hq]; rfl
  have HSM := Lib.hid (show SmT qs from fun p hp => by
    have hm : p.tu ∈ tus qs := List.mem_map.2 ⟨p, hp, rfl⟩
    rw [hq] at hm
    have hr : p.r = ⟨vs, [1]⟩ := by
      simp only [List.mem_cons, List.not_mem_nil, or_false, Tu.mk.injEq] at hm
      rcases hm with ⟨h, _⟩ | ⟨h, _⟩ <;> exact h
    have := HLN.out
    rw [hr]
    simp only [List.length_cons, List.length_nil]; omega)
  obtain ⟨aq, cq, rfl, z1, z2⟩ := r1.shape
  have p0 := tus_at qs 0 (by omega)
  have p1 := tus_at qs 1 (by omega)
  simp only [hq, List.getElem_cons_zero, List.getElem_cons_succ, Tu.mk.injEq] at p0 p1
  obtain ⟨g, o, rfl, c0, ca, cb, c3⟩ := rd_T r1 0 (by omega)
  obtain ⟨g', o', e', d0, da, db, d3⟩ := rd_T r1 1 (by omega)
  simp only [Option.some.injEq, Addr.mk.injEq, and_true] at e'
  obtain ⟨rfl, rfl⟩ := e'
  have hv0 := fun w2 (hg : Ext w3 w2) => valid_prg qs[0] w2 ((HR2.out _ (List.getElem_mem _)).ext hg)
  have HVT := Lib.hid (show vldT qs[0].tu = true by
    have : qs[0].tu = ⟨⟨vs, [1]⟩, 0, 9⟩ := by rw [Tu.mk.injEq]; exact ⟨p0.1.symm, p0.2.1.symm, p0.2.2.symm⟩
    rw [this]; exact HVD.out)
  rw [HVT.out] at hv0
  rw [← p0.2.1] at ca
  rw [← p0.2.2] at cb
  rw [← p1.2.1] at da
  rw [← p1.2.2] at db
  have pa0 := p0.2.1
  have pb0 := p0.2.2
  generalize qs[0] = q0 at *
  generalize qs[1] = q1 at *
  obtain ⟨⟨xa, xn, xc, xb, xm, xd⟩, xr, qa, qb⟩ := q0
  obtain ⟨⟨ya, yn, yc, yb, ym, yd⟩, yr, ra, rb⟩ := q1
  simp only [Hd.x, Hd.y] at c0 c3 d0 d3 pa0 pb0
  subst pa0 pb0
  simp only [Hd.x, Hd.y, tv] at hv0
  simp only [Nat.zero_mul, Nat.add_zero, Nat.one_mul] at c0 ca cb c3 d0 da db d3
  have HV0 := Lib.hid hv0
  rw [hqn] at HR1 z1
  simp only [hqn]
  unfold maxLen at z2
  have HQN := Lib.hid hqn
  clear l1 l2 l3 hv hA r1 r2 r3 r5 hq p0 p1 hv0 hqn
  have HC := Lib.hid (And.intro c0 (And.intro ca (And.intro cb c3)))
  go_wp2_with fail
  refine (tslice_prg qs 4 _ w3 HR1.out HR2.out (by rw [HQN.out]; omega) HSM.out).mono ?_; rintro e w4 ⟨v4, rs, rfl, s1, s2, s3, s4⟩
  have HE4 := Lib.hid s4
  have hrn : rs.length = 2 := by
    have h1 := rows_len rs
    rw [s3, HQ.out, aw_sl] at h1
    exact h1.symm
  obtain ⟨a4, c4, rfl, _, _⟩ := s1.shape
  simp only [hrn]
  clear s1 s2 s3 s4 hrn
  go_wp2_with fail
  refine (bounds_prg qs _ w4 (HR1.out.ext HE4.out) (by rw [HQN.out]; omega)).mono ?_; rintro e w5 ⟨v5, pts, rfl, t1, t2, t3⟩
  rw [HQ.out] at t2
  obtain rfl := t2.unique (aw_bd _)
  have HT1 := Lib.hid t1
  have HE5 := Lib.hid t3
  clear t1 t2 t3
  go_wp2_with fail
  refine (same_ints [0, 3, 5, 9] _ _ _ (HT1.out.ext ((Ext.refl w5).alloc _ _)) (rd_litG w5 [(0 : Int), 3, 5, 9] #[.int .i64 0, .int .i64 3, .int .i64 5, .int .i64 9] 3 _ 4 rfl rfl (by simp) rfl)).mono ?_; rintro e w6 ⟨rfl, hE6⟩
  have HE6 := Lib.hid (((HE4.out.trans HE5.out).alloc #[.int .i64 0, .int .i64 3, .int .i64 5, .int .i64 9] 3).trans hE6)
  clear hE6
  have f0 := HE6.out.keeps HC.out.1
  have f1 := HE6.out.keeps HC.out.2.1
  have f2 := HE6.out.keeps HC.out.2.2.1
  have f3 := HE6.out.keeps HC.out.2.2.2
  clear c0 ca cb c3 d0 da db d3
  go_wp2_with fail
  refine (HV0.out _ HE6.out).mono ?_; rintro e w7 ⟨rfl, hE7⟩
  go_wp2_with fail
  go_ret
  exact ⟨rfl, (HE3.out.trans HE6.out).trans hE7⟩
end Go.Proofs.YtcankdikbnllkaaGreat
/- The reference's levels in plain lists: insertion into a sorted row, counts; a row of the call's own written in place. -/
namespace Go.Proofs.YtcankdikbnllkaaGreat
open Go.ChangeShapes Go.WideShapes Go.ChangeAt Go.RowKit

def ltP2 (p q : Int × Int) : Prop := p.1 < q.1 ∨ (p.1 = q.1 ∧ p.2 < q.2)
/-- a row with a hole at j, filled with x -/
def insX (M : List (Int × Int)) (j : Nat) (x : Int × Int) : List (Int × Int) := M.take j ++ x :: M.drop j
theorem insX_len (M : List (Int × Int)) (j : Nat) (x : Int × Int) : (insX M j x).length = M.length + 1 := by
  unfold insX; rw [List.length_append, List.length_cons, List.length_take, List.length_drop]; omega
theorem insX_start (M : List (Int × Int)) (p : Int × Int) : M ++ [p] = insX M M.length p := by unfold insX; simp
theorem insX_set {M : List (Int × Int)} {j : Nat} (hj : j ≤ M.length) (x y : Int × Int) : (insX M j x).set j y = insX M j y := by
  unfold insX
  rw [List.set_append, if_neg (by rw [List.length_take]; omega), List.length_take, Nat.min_eq_left hj, Nat.sub_self]
  rfl
theorem insX_at {M : List (Int × Int)} {j : Nat} (hj : j < M.length) (x : Int × Int) : (insX M (j + 1) x)[j]'(by rw [insX_len]; omega) = M[j] := by
  unfold insX
  rw [List.getElem_append_left (by rw [List.length_take]; omega), List.getElem_take]
theorem insX_shift {M : List (Int × Int)} {j : Nat} (hj : j < M.length) : insX M (j + 1) M[j] = insX M j M[j] := by
  unfold insX
  rw [List.take_succ_eq_append_getElem hj, List.drop_eq_getElem_cons hj, List.append_assoc]
  rfl
theorem insX_perm (M : List (Int × Int)) (j : Nat) (p : Int × Int) : (insX M j p).Perm (M ++ [p]) := by
  unfold insX
  have h1 : (M.take j ++ p :: M.drop j).Perm (p :: (M.take j ++ M.drop j)) := List.perm_middle
  rw [List.take_append_drop] at h1
  exact h1.trans (List.perm_append_singleton p M).symm
theorem insX_sorted {M : List (Int × Int)} {j : Nat} {p : Int × Int} (hM : M.Pairwise leP2) (hj : j ≤ M.length) (hd : ∀ q ∈ M.drop j, ltP2 p q) (hl : j = 0 ∨ ∃ h : j - 1 < M.length, ¬ ltP2 p M[j - 1]) : (insX M j p).Pairwise leP2 := by
  unfold insX
  have hs : (M.take j ++ M.drop j).Pairwise leP2 := by rw [List.take_append_drop]; exact hM
  obtain ⟨s1, s2, s3⟩ := List.pairwise_append.1 hs
  refine List.pairwise_append.2 ⟨s1, List.pairwise_cons.2 ⟨fun q hq => ?_, s2⟩, fun a ha b hb => ?_⟩
  · have := hd q hq; unfold ltP2 leP2 at *; omega
  · rcases List.mem_cons.1 hb with rfl | hb
    · rcases hl with rfl | ⟨h1, h2⟩
      · simp at ha
      · obtain ⟨i, hi, rfl⟩ := List.mem_iff_getElem.1 ha
        rw [List.length_take] at hi
        rw [List.getElem_take]
        by_cases e : i = j - 1
        · subst e; unfold ltP2 leP2 at *; omega
        · have h3 := List.pairwise_iff_getElem.1 hM i (j - 1) (by omega) h1 (by omega)
          unfold ltP2 leP2 at *; omega
    · exact s3 a ha b hb
theorem insX_next {M : List (Int × Int)} {j : Nat} {p : Int × Int} (hj : j < M.length) (hd : ∀ q ∈ M.drop (j + 1), ltP2 p q) (h : ltP2 p M[j]) : ∀ q ∈ M.drop j, ltP2 p q := by
  intro q hq
  rw [List.drop_eq_getElem_cons hj] at hq
  rcases List.mem_cons.1 hq with rfl | hq
  · exact h
  · exact hd q hq
theorem own_putG {α : Type} [Enc α] {e : TypeId} {W w : World} {g n cap : Nat} {l : List α} (h : OwnG e W w (.slice (some ⟨g, 0, none⟩) n cap) l) (i : Nat) (x : α) (hi : i < l.length) : OwnG e W (putAll w g (i * Enc.sz α) (Enc.cells x)) (.slice (some ⟨g, 0, none⟩) n cap) (l.set i x) ∧ w.grownBy (putAll w g (i * Enc.sz α) (Enc.cells x)) (some g) := by
  have hg := (h.blk g rfl).1
  obtain rfl := h.rd.len.1
  obtain ⟨h1, h2⟩ := putAll_owns (Enc.cells x) w (i * Enc.sz α) (cellsG l) h.1
  refine ⟨⟨?_, ext_grownBy h.2 h2 (fun k hk => by injection hk with hk; subst hk; exact hg)⟩, h2⟩
  rw [cellsG_set l i x hi] at h1
  rw [List.length_set]
  exact h1
/-- the same at a row of periods -/
theorem put_per {W w : World} {g n cap : Nat} {v : Value} {l m : List (Int × Int)} (h : Duo tPe.e tPe.e W w (.slice (some ⟨g, 0, none⟩) n cap) v l m) (i : Nat) (a b : Int) (hi : i < l.length) : Duo tPe.e tPe.e W ((w.setCell ⟨g, i * 2, none⟩ (.int .i64 a)).setCell ⟨g, i * 2 + 1, none⟩ (.int .i64 b)) (.slice (some ⟨g, 0, none⟩) n cap) v (l.set i (a, b)) m ∧ w.grownBy ((w.setCell ⟨g, i * 2, none⟩ (.int .i64 a)).setCell ⟨g, i * 2 + 1, none⟩ (.int .i64 b)) (some g) := by
  obtain ⟨h1, h2⟩ := own_putG h.l i (a, b) hi
  exact ⟨h.left h1 h2 (Loc.refl _ _), h2⟩
theorem cov_step {ps : List TP} {j : Nat} (hj : j < ps.length) (t : Int) : cov (prs (tus (ps.take (j + 1)))) t = cov (prs (tus (ps.take j))) t + (if incB ps[j].a ps[j].b t = true then 1 else 0) := by
  rw [List.take_succ_eq_append_getElem hj]
  unfold prs
  rw [tus_app, List.map_append, cov_app]
  show _ + cov [(ps[j].a, ps[j].b)] t = _
  rw [cov_cons, cov_nil, Nat.zero_add]
theorem prs_len (ps : List TP) : (prs (tus ps)).length = ps.length := by unfold prs; rw [List.length_map, tus_len]
/-- a list without repetitions is not longer than one that holds its members -/
theorem nodup_le {α : Type} [BEq α] [LawfulBEq α] : ∀ (l m : List α), l.Nodup → (∀ x ∈ l, x ∈ m) → l.length ≤ m.length
  | [], _, _, _ => Nat.zero_le _
  | x :: l, m, hn, hs => by
    obtain ⟨h1, h2⟩ := List.nodup_cons.1 hn
    have hx := hs x (by simp)
    have := nodup_le l (m.erase x) h2 fun y hy => (List.mem_erase_of_ne (fun e => h1 (by rw [← e]; exact hy))).2 (hs y (by simp [hy]))
    rw [List.length_erase_of_mem hx] at this
    have : 0 < m.length := List.length_pos_of_mem hx
    rw [List.length_cons]; omega
/-- the normal form is not longer than what it is the normal form of -/
theorem nf_le {m s : List (Int × Int)} (h : NF m) (e : ∀ t, memB m t = memB s t) : m.length ≤ s.length := by
  have h1 : (m.map Prod.fst).length ≤ (s.map Prod.fst).length := by
    refine nodup_le _ _ ?_ fun a ha => ?_
    · have hp : (m.map Prod.fst).Pairwise (· < ·) := by
        rw [List.pairwise_iff_getElem]
        intro i j hi hj hij
        rw [List.length_map] at hi hj
        rw [List.getElem_map, List.getElem_map]
        have h2 := List.pairwise_iff_getElem.1 h.2 i j hi hj hij
        have := (h.1 _ (List.getElem_mem hi)).2.1
        omega
      exact hp.imp fun h => by omega
    · obtain ⟨p, hp, rfl⟩ := List.mem_map.1 ha
      have hv := h.1 p hp
      have hin : memB s p.1 = true := by rw [← e]; exact memB_iff.2 ⟨p, hp, hv, Int.le_refl _, hv.2.1⟩
      obtain ⟨q, hq, q1, q2, q3⟩ := memB_iff.1 hin
      by_cases c : q.1 = p.1
      · exact List.mem_map.2 ⟨q, hq, c⟩
      · exfalso
        have h2 : memB m (p.1 - 1) = true := by rw [e]; exact memB_iff.2 ⟨q, hq, q1, by omega, by omega⟩
        obtain ⟨z, hz, z1, z2, z3⟩ := memB_iff.1 h2
        rcases nf_gap h hp hz with rfl | g | g <;> omega
  rwa [List.length_map, List.length_map] at h1
theorem pcs_len (f : Int → Nat) (pts : List Int) (k n : Nat) : (pcs f pts k n).length ≤ n := by
  unfold pcs
  refine Nat.le_trans (List.length_filterMap_le _ _) ?_
  rw [List.length_range]; exact Nat.le_refl _
theorem memB_pcs_nil (f : Int → Nat) (pts : List Int) (k : Nat) : pcs f pts k 0 = [] := rfl
end Go.Proofs.YtcankdikbnllkaaGreat
