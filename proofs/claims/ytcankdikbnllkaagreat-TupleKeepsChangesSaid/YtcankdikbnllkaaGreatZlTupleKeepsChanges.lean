/- The law KeepsChanges. -/
import Derived.Test.YtcankdikbnllkaaGreatZz38
import Derived.Test.YtcankdikbnllkaaGreatZz16
namespace Go.Proofs.YtcankdikbnllkaaGreat
open Go.ChangeShapes Go.WideShapes Go.ChangeAt Go.RowKit

/-- the first k lineages are 1 already -/
def chm (v : List V) (q k : Nat) : List Tu := (List.range q).map fun i : Nat => ⟨⟨v, [if i < k then 1 else 1 + (i : Int)]⟩, 3 * (i : Int), 3 * (i : Int) + 3⟩
theorem chm_0 (v : List V) (q : Nat) : chm v q 0 = chg v q := by unfold chm chg; simp
theorem chm_q (v : List V) (q : Nat) : chm v q q = chg1 v q := by
  unfold chm chg1
  refine List.map_congr_left fun i hi => ?_
  rw [if_pos (List.mem_range.1 hi)]
theorem chm_len (v : List V) (q k : Nat) : (chm v q k).length = q := by simp [chm]
theorem chm_at (v : List V) (q k i : Nat) (h : i < (chm v q k).length) : (chm v q k)[i] = ⟨⟨v, [if i < k then 1 else 1 + (i : Int)]⟩, 3 * (i : Int), 3 * (i : Int) + 3⟩ := by simp [chm]
theorem chm_set (v : List V) (q k : Nat) : (chm v q k).set k ⟨⟨v, [1]⟩, 3 * (k : Int), 3 * (k : Int) + 3⟩ = chm v q (k + 1) := by
  refine List.ext_getElem (by simp [chm]) fun i h1 h2 => ?_
  rw [List.getElem_set, chm_at v q (k + 1) i h2]
  by_cases c : k = i
  · subst c; rw [if_pos rfl, if_pos (by omega)]
  · rw [if_neg c, chm_at v q k i (by rw [List.length_set] at h1; exact h1)]
    by_cases d : i < k
    · rw [if_pos d, if_pos (by omega)]
    · rw [if_neg d, if_neg (by omega)]
theorem chg_len (v : List V) (q : Nat) : (chg v q).length = q := by simp [chg]
theorem chg_succ (v : List V) (k : Nat) : chg v (k + 1) = chg v k ++ [⟨⟨v, [1 + (k : Int)]⟩, 3 * (k : Int), 3 * (k : Int) + 3⟩] := by unfold chg; rw [List.range_succ, List.map_append]; rfl
theorem tus_set (ps : List TP) (i : Nat) (p : TP) : tus (ps.set i p) = (tus ps).set i p.tu := List.map_set
theorem chm_sm {ps : List TP} {v : List V} {q k : Nat} (hv : v.length = 2) (h : tus ps = chm v q k) : SmT ps := fun p hp => by
  have hm : p.tu ∈ tus ps := List.mem_map.2 ⟨p, hp, rfl⟩
  rw [h] at hm
  obtain ⟨i, _, hi⟩ := List.mem_map.1 hm
  have hr : p.r = ⟨v, [if i < k then 1 else 1 + (i : Int)]⟩ := (Tu.mk.inj hi).1.symm
  rw [hr]
  simp only [List.length_cons, List.length_nil]; omega
theorem own_blkG {α : Type} [Enc α] {e : TypeId} {W w : World} {v : Value} {l : List α} (h : OwnG e W w v l) (hl : l.length ≠ 0) : ∃ g cap, v = .slice (some ⟨g, 0, none⟩) l.length cap ∧ l.length ≤ cap ∧ cap ≤ maxLen := by
  rcases h.1.2 with ⟨_, e⟩ | ⟨g, cap, cur, e, _, _, hc, hm, _⟩
  · exact absurd e hl
  · exact ⟨g, cap, e, hc, hm⟩
/-- one tuple's lineage is stored anew -/
theorem chm_next {W w : World} {g n cap k q : Nat} {v : List V} {ps : List TP} (hn : n = ps.length) {gy cy : Nat} {ny : Nat} (hO : OwnG tT.e W w (.slice (some ⟨g, 0, none⟩) n cap) ps) (hI : ∀ p ∈ ps, RdT w p ∧ Off tT.e W w p.h.x ∧ Off tT.e W w p.h.y) (hT : tus ps = chm v q k) (hk : k < q)
    (hy : OwnG tI.e W w (.slice (some ⟨gy, 0, none⟩) ny cy) [(1 : Int)]) : OwnTs W (w.setCell ⟨g, k * 4 + 3, none⟩ (.slice (some ⟨gy, 0, none⟩) ny cy)) (.slice (some ⟨g, 0, none⟩) n cap) (chm v q (k + 1)) := by
  subst hn
  have hl : k < ps.length := by rw [← tus_len, hT, chm_len]; exact hk
  have hg := (hO.1.stored (k * Enc.sz TP + 3) (.slice (some ⟨gy, 0, none⟩) ny cy)).2
  have hp0 := hI ps[k] (List.getElem_mem _)
  have ht := tus_at ps k hl
  simp only [hT, chm_at, if_neg (Nat.lt_irrefl k)] at ht
  generalize hpk : ps[k] = p at *
  obtain ⟨⟨xa, xn, xc, xb, xm, xd⟩, r, a, b⟩ := p
  have ht2 := Tu.mk.inj ht
  obtain ⟨rfl, rfl, rfl⟩ := ht2
  have hs := own_setJ hO k 3 hl (by decide) (⟨⟨xa, xn, xc, some ⟨gy, 0, none⟩, ny, cy⟩, ⟨v, [1]⟩, 3 * (k : Int), 3 * (k : Int) + 3⟩ : TP) (.slice (some ⟨gy, 0, none⟩) ny cy) (by rw [hpk]; rfl)
  refine ⟨_, hs, fun p hp => ?_, by rw [tus_set, hT]; exact chm_set v q k⟩
  rcases List.mem_or_eq_of_mem_set hp with hp | rfl
  · exact RdT.grw (hI p hp) (grw_by hg) hO.blk
  · exact RdT.grw ⟨⟨hp0.1.1, hy.rd⟩, hp0.2.1, hy.off (by decide)⟩ (grw_by hg) hO.blk
def TpO (W w : World) (p : TP) : Prop := RdT w p ∧ Off tT.e W w p.h.x ∧ Off tT.e W w p.h.y
theorem TpO.ext {W w w' : World} {p : TP} (h : TpO W w p) (k : Ext w w') : TpO W w' p := ⟨h.1.ext k, h.2.1.ext k, h.2.2.ext k⟩
def KcA (w : World) (vs : List V) (q : Nat) (vo i : Value) (wr : World) : Prop := ∃ k : Nat, k ≤ q ∧ i = .int .i64 k ∧ OwnTs w wr vo (chg vs k)
def KcB (w : World) (vs : List V) (q : Nat) (v : Value) (i : Value) (wr : World) : Prop := ∃ k : Nat, k ≤ q ∧ i = .int .i64 k ∧ OwnTs w wr v (chm vs q k)
set_option maxHeartbeats 8000000 in
set_option maxRecDepth 100000 in
theorem law_TupleKeepsChanges (x y n : Int) (x0 : 0 ≤ x) (x1 : x ≤ 65535) (y0 : 0 ≤ y) (y1 : y ≤ 65535) (n0 : 0 ≤ n) (_n1 : n ≤ 255) (w : World) : Calls Tryz.prog 10 #[.int .u16 x, .int .u16 y, .int .u8 n] w fun e w' => e = .returned (.bool true) ∧ Ext w w' := by
  have HVS := Lib.hid (fun w => valsx x y x0 x1 y0 y1 w)
  have HLN := Lib.hid (show (valsL x y).length = 2 from rfl)
  generalize valsL x y = vs at *
  obtain ⟨p, hp⟩ : ∃ p, p = n % 10 := ⟨_, rfl⟩
  have hp1 : Int.tmod n 10 = p := by rw [Int.tmod_eq_emod_of_nonneg n0]; exact hp.symm
  have hp2 := hp.symm
  have hpb : 0 ≤ p ∧ p < 10 := by omega
  have wp1 : IntKind.u8.wrap p = p := by simp only [IntKind.wrap, IntKind.bits, IntKind.signed]; simp; omega
  have wp2 := wrapI p (by omega) (by omega)
  obtain ⟨q, hq⟩ : ∃ q : Nat, (q : Int) = 1 + p := ⟨(1 + p).toNat, by omega⟩
  have hqb : 1 ≤ q ∧ q ≤ 10 := by omega
  have wq : IntKind.i64.wrap (1 + p) = q := by rw [wrapI (1 + p) (by omega) (by omega)]; exact hq.symm
  clear hp n0 _n1 x0 x1 y0 y1 hq
  go_enter Tryz.func10, Tryz.ntmps10
  go_wp2_with fail
  go_loopw [7, 9] (KcA w vs q) (fun _ i _ => q - (intOf i).toNat)
  case atStart => exact ⟨0, Nat.zero_le _, rfl, OwnTs.nil (Ext.refl _)⟩
  case round =>
    obtain ⟨k, hk, rfl, ts, hO, hI, hT⟩ := hrel
    have hk0 : (0 : Int) ≤ (k : Int) := Int.natCast_nonneg _
    have hts : ts.length = k := by rw [← tus_len, hT, chg_len]
    by_cases hlt : k < q
    · have hk1 : (k : Int) < (q : Int) := by omega
      have hq10 : (q : Int) ≤ 10 := by omega
      have HO := Lib.hid hO
      have HI := Lib.hid hI
      have HT := Lib.hid hT
      have HTS := Lib.hid hts
      clear hO hI hT hts
      have e1 := wrapI (3 * (k : Int)) (by omega) (by omega)
      have e2 := wrapI (3 * (k : Int) + 3) (by omega) (by omega)
      have e3 := wrapI (1 + (k : Int)) (by omega) (by omega)
      go_wp2_with fail
      refine (HVS.out _).mono ?_; rintro e w1 ⟨v1, rfl, o1⟩
      obtain ⟨a1, c1, rfl, _, _⟩ := o1.rd.shape
      have o2 := own_litB tI.e (Ext.refl w1) [1 + (k : Int)] #[.int .i64 (1 + (k : Int))] w1.heap.size 1 rfl rfl (by simp) rfl
      have E2 : Ext w1 (w1.alloc (.cells #[.int .i64 (1 + (k : Int))] 3)) := (Ext.refl w1).alloc _ _
      have HT1 := Lib.hid (show TpO w (w1.alloc (.cells #[.int .i64 (1 + (k : Int))] 3)) (⟨⟨a1, vs.length, c1, some ⟨w1.heap.size, 0, none⟩, 1, 1⟩, ⟨vs, [1 + (k : Int)]⟩, 3 * (k : Int), 3 * (k : Int) + 3⟩ : TP) from
        ⟨⟨o1.rd.ext E2, o2.rd⟩, (o1.off (by decide)).ext E2, o2.off (by decide)⟩)
      have HX1 := Lib.hid (o1.2.trans E2)
      clear o1 o2 E2
      have EA := Lib.hid ((Ext.refl (w1.alloc (.cells #[.int .i64 (1 + (k : Int))] 3))).alloc #[.slice a1 vs.length c1, .int .i64 (3 * (k : Int)), .int .i64 (3 * (k : Int) + 3), .slice (some ⟨w1.heap.size, 0, none⟩) 1 1] 32)
      have HOA := Lib.hid (HO.out.ext (HX1.out.trans EA.out))
      have HTA := Lib.hid (HT1.out.ext EA.out)
      have HIA := Lib.hid (fun p hp => TpO.ext (HI.out p hp) (HX1.out.trans EA.out))
      clear HT1 HX1 HO HI
      go_wp2_with (at_builtin; refine appG tT rfl _ _ rfl w _ ts rfl ?a1 _ [(⟨⟨a1, vs.length, c1, some ⟨w1.heap.size, 0, none⟩, 1, 1⟩, ⟨vs, [1 + (k : Int)]⟩, 3 * (k : Int), 3 * (k : Int) + 3⟩ : TP)] rfl ?a2 ?a3 ?_; (case a1 => exact HOA.out); (have z2 := rd_litG (w1.alloc (.cells #[.int .i64 (1 + (k : Int))] 3)) [(⟨⟨a1, vs.length, c1, some ⟨w1.heap.size, 0, none⟩, 1, 1⟩, ⟨vs, [1 + (k : Int)]⟩, 3 * (k : Int), 3 * (k : Int) + 3⟩ : TP)] #[.slice a1 vs.length c1, .int .i64 (3 * (k : Int)), .int .i64 (3 * (k : Int) + 3), .slice (some ⟨w1.heap.size, 0, none⟩) 1 1] 32 (w1.heap.size + 1) 1 (by rw [alsz]) rfl (by simp) rfl; case a2 => exact z2); (case a3 => have := HTS.out; simp; omega); intro v5 w5 hO5 hg5)
      have hn5 := OwnTs.more HOA.out HIA.out HT.out HTA.out hO5 hg5
      rw [show TP.tu ⟨⟨a1, vs.length, c1, some ⟨w1.heap.size, 0, none⟩, 1, 1⟩, ⟨vs, [1 + (k : Int)]⟩, 3 * (k : Int), 3 * (k : Int) + 3⟩ = ⟨⟨vs, [1 + (k : Int)]⟩, 3 * (k : Int), 3 * (k : Int) + 3⟩ from rfl, ← chg_succ] at hn5
      have HN5 := Lib.hid hn5
      clear hn5 hO5 hg5
      go_roundw
      case rel => exact ⟨k + 1, hlt, by go_num, HN5.out⟩
      case measure => simp [intOf]; omega
    · have hke : k = q := by omega
      rw [hke] at hT hts
      have hT0 : tus ts = chm vs q 0 := hT.trans (chm_0 vs q).symm
      obtain ⟨g, cap, hv, hc1, hc2⟩ := own_blkG hO (by omega)
      rw [hts] at hv hc1
      subst hv
      have HSM := Lib.hid (chm_sm HLN.out hT0)
      have HO := Lib.hid hO
      have HI := Lib.hid hI
      have HT := Lib.hid hT
      have HT0 := Lib.hid hT0
      have HTS := Lib.hid hts
      have hki : ¬ (k : Int) < (q : Int) := by omega
      clear hO hI hT hts hT0 hke hk hk0
      unfold maxLen at hc2
      go_wp2_with fail
      refine (norm_prg ts _ _ HO.out.rd (fun p hp => (HI.out p hp).1) (by have := HTS.out; omega) HSM.out).mono ?_; rintro e w2 ⟨v2, qs, rfl, r1, _, r3, _, r5⟩
      rw [HT.out] at r3
      have hqs : qs.length = q := by rw [← tus_len, r3.unique (chg_nf vs q (by omega)), chg_len]
      obtain ⟨a2, c2, rfl, _, _⟩ := r1.shape
      have HO2 := Lib.hid (show OwnTs w w2 (.slice (some ⟨g, 0, none⟩) q cap) (chm vs q 0) from ⟨ts, HO.out.ext r5, fun p hp => TpO.ext (HI.out p hp) r5, HT0.out⟩)
      simp only [hqs]
      clear r1 r3 r5 hqs HO HI HT HT0 HTS HSM
      go_wp2_with fail
      go_loopw [42] (KcB w vs q (.slice (some ⟨g, 0, none⟩) q cap)) (fun i _ => q - (intOf i).toNat)
      case atStart => exact ⟨0, Nat.zero_le _, rfl, HO2.out⟩
      case round =>
        obtain ⟨j, hj, rfl, ps, hO, hI, hT⟩ := hrel
        have hj0 : (0 : Int) ≤ (j : Int) := Int.natCast_nonneg _
        have hps : ps.length = q := by rw [← tus_len, hT, chm_len]
        by_cases hlt : j < q
        · have hj1 : (j : Int) < (q : Int) := by omega
          have hX := (Ext.refl wr).alloc #[.int .i64 1] 3
          have hO1 := hO.ext hX
          have hI1 := fun p hp => TpO.ext (hI p hp) hX
          have hy := own_litB tI.e (hO.2) [(1 : Int)] #[.int .i64 1] wr.heap.size 1 rfl rfl (by simp) rfl
          obtain ⟨g', o', e', _, _, _, z⟩ := rd_T hO1.rd j (by omega)
          cases e'
          have hw1 := hO1.1
          rw [hps] at hw1
          have zf := hw1.frozenAt (j * 4 + 3)
          have hOn := chm_next hps.symm hO1 hI1 hT hlt hy
          have HON := Lib.hid hOn
          have hlt2 := World.block_lt_of_cell? _ _ z
          simp only [Nat.zero_add] at z
          clear hOn hy hI1 hw1 hO1 hI hO hX hT HO2
          go_wp2_with fail
          go_roundw
          case rel => exact ⟨j + 1, hlt, by go_num, HON.out⟩
          case measure => simp [intOf]; omega
        · have hje : j = q := by omega
          rw [hje, chm_q] at hT
          have hn := chm_sm HLN.out (hT.trans (chm_q vs q).symm)
          have HSM := Lib.hid hn
          have HO := Lib.hid hO
          have HI := Lib.hid hI
          have HT := Lib.hid hT
          have HPS := Lib.hid hps
          have hji : ¬ (j : Int) < (q : Int) := by omega
          clear hn hO hI hT hps hje HO2
          go_wp2_with fail
          refine (norm_prg ps _ _ HO.out.rd (fun p hp => (HI.out p hp).1) (by have := HPS.out; omega) HSM.out).mono ?_; rintro e w5 ⟨v5, one, rfl, s1, _, s3, _, s5⟩
          rw [HT.out] at s3
          have hone := s3.unique (chg1_nf vs q (by omega) (by omega))
          have hol : one.length = 1 := by rw [← tus_len, hone]; rfl
          have hat := tus_at one 0 (by omega)
          simp only [hone, List.getElem_cons_zero] at hat
          obtain ⟨a5, c5, rfl, _, _⟩ := s1.shape
          obtain ⟨g5, o5, rfl, _, za, zb, _⟩ := rd_T s1 0 (by omega)
          have hat2 := Tu.mk.inj hat
          rw [← hat2.2.1] at za
          rw [← hat2.2.2] at zb
          have HE := Lib.hid (HO.out.2.trans s5)
          simp only [hol]
          have eq3 := wrapI (3 * (q : Int)) (by omega) (by omega)
          clear hat hat2 hone s1 s3 s5 HO HI HT HPS HSM
          go_wp2_with fail
          refine (awake_law _).mono ?_; rintro e w6 ⟨rfl, hE6⟩
          have ya := hE6.keeps za
          have yb := hE6.keeps zb
          have HE6 := Lib.hid hE6
          clear hE6 za zb
          simp only [Nat.zero_mul, Nat.add_zero] at ya yb
          go_wp2_with fail
          go_ret
          exact ⟨by simp, HE.out.trans HE6.out⟩
end Go.Proofs.YtcankdikbnllkaaGreat
