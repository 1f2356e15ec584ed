/- The reference's levels, walked. -/
import Derived.Test.YtnckdopphimgoaaGreatZz14
import Derived.Test.YtnckdopphimgoaaGreatZz32
namespace Go.Proofs.YtnckdopphimgoaaGreat
open Go.ChangeShapes Go.WideShapes Go.ChangeAt Go.RowKit

/-- how often each boundary is covered -/
def czL (f : Int → Nat) (pts : List Int) : List Int := pts.map fun p => ((f p : Nat) : Int)
theorem czL_take {f : Int → Nat} {pts : List Int} {k : Nat} (hk : k < pts.length) : czL f (pts.take (k + 1)) = czL f (pts.take k) ++ [((f pts[k] : Nat) : Int)] := by
  unfold czL; rw [List.take_succ_eq_append_getElem hk, List.map_append]; rfl
def CtR (W : World) (f : Int → Nat) (pts : List Int) (vc i : Value) (wr : World) : Prop := ∃ k : Nat, k ≤ pts.length - 1 ∧ i = .int .i64 k ∧ OwnG tI.e W wr vc (czL f (pts.take k))
def CnR (W : World) (ps : List TP) (t : Int) (c i : Value) (wr : World) : Prop := ∃ j : Nat, j ≤ ps.length ∧ i = .int .i64 j ∧ c = .int .i64 ((cov (prs (tus (ps.take j))) t : Nat) : Int) ∧ Ext W wr
def LoR (W : World) (f : Int → Nat) (n : Nat) (vo i : Value) (wr : World) : Prop := ∃ (q : Nat) (L : List (Int × Int)), q ≤ n ∧ i = .int .i64 ((q + 1 : Nat) : Int) ∧ Hid (LvK f q L) ∧ OwnG tPe.e W wr vo L ∧ L.length ≤ q * 800
def StR (W : World) (f : Int → Nat) (pts : List Int) (k : Nat) (L : List (Int × Int)) (vo u i : Value) (wr : World) : Prop := ∃ j : Nat, j ≤ pts.length - 1 ∧ i = .int .i64 j ∧ Duo tPe.e tPe.e W wr vo u L (pcs f pts k j)
def InR (W : World) (L m : List (Int × Int)) (vm vo i : Value) (wr : World) : Prop := ∃ (j : Nat) (M : List (Int × Int)), j ≤ m.length ∧ i = .int .i64 j ∧ Duo tPe.e tPe.e W wr vo vm M m ∧ Hid (M.Perm (L ++ m.take j)) ∧ Hid (M.Pairwise leP2)
def ShR (W : World) (M m : List (Int × Int)) (p : Int × Int) (bx : Nat) (vm vo i : Value) (wr : World) : Prop := ∃ (j : Nat) (x : Int × Int), j ≤ M.length ∧ i = .int .i64 j ∧ Duo tPe.e tPe.e W wr vo vm (insX M j x) m ∧ Hid (∀ q ∈ M.drop j, ltP2 p q) ∧ wr.cell? ⟨bx, 0, none⟩ = some (.int .i64 p.1) ∧ wr.cell? ⟨bx, 1, none⟩ = some (.int .i64 p.2)
theorem pcs_more {f : Int → Nat} {pts : List Int} {k j : Nat} (h : j + 1 < pts.length) (hk : k ≤ f pts[j]) : pcs f pts k (j + 1) = pcs f pts k j ++ [(pts[j], pts[j + 1])] := by rw [pcs_step f pts k j h, if_pos hk]
theorem pcs_same {f : Int → Nat} {pts : List Int} {k j : Nat} (h : j + 1 < pts.length) (hk : ¬ k ≤ f pts[j]) : pcs f pts k (j + 1) = pcs f pts k j := by rw [pcs_step f pts k j h, if_neg hk, List.append_nil]
theorem insX_self {M : List (Int × Int)} {j : Nat} (hj : j ≤ M.length) (x : Int × Int) : (insX M j x)[j]'(by rw [insX_len]; omega) = x := by
  unfold insX
  rw [List.getElem_append_right (by rw [List.length_take]; omega)]
  simp [Nat.min_eq_left hj]
/-- the cells of an element of a row of the call's own -/
theorem own_cells {W w : World} {g n cap : Nat} {l : List (Int × Int)} (h : OwnG tPe.e W w (.slice (some ⟨g, 0, none⟩) n cap) l) (i : Nat) (hi : i < l.length) (x : Int × Int) (hx : l[i] = x) : w.cell? ⟨g, i * 2, none⟩ = some (.int .i64 x.1) ∧ w.cell? ⟨g, i * 2 + 1, none⟩ = some (.int .i64 x.2) := by
  obtain ⟨g', o', e, c⟩ := h.rd.at i hi
  simp only [Option.some.injEq, Addr.mk.injEq, and_true] at e
  obtain ⟨rfl, rfl⟩ := e
  rw [hx] at c
  have c0 := c 0 _ rfl
  have c1 := c 1 _ rfl
  simp only [Enc.sz, Nat.add_zero, Nat.zero_add] at c0 c1
  exact ⟨c0, c1⟩
theorem own_frozen {W w : World} {g n cap : Nat} {l : List (Int × Int)} (h : OwnG tPe.e W w (.slice (some ⟨g, 0, none⟩) n cap) l) (t : Nat) : w.frozen? ⟨g, t, none⟩ = false := by
  obtain rfl := h.rd.len.1
  exact h.1.frozenAt t
theorem own_shapeP {W w : World} {v : Value} {l : List (Int × Int)} (h : OwnG tPe.e W w v l) (h0 : 0 < l.length) : ∃ g cap, v = .slice (some ⟨g, 0, none⟩) l.length cap ∧ l.length ≤ cap ∧ cap ≤ maxLen ∧ W.heap.size ≤ g := by
  rcases h.1.2 with ⟨rfl, h1⟩ | ⟨g, cap, cur, rfl, hb, hg, hnc, hcm, _⟩
  · omega
  · exact ⟨g, cap, rfl, hnc, hcm, hb⟩
set_option maxHeartbeats 8000000 in
set_option maxRecDepth 100000 in
theorem levels_ref (ps : List TP) (v : Value) (w : World) (h : RdG w v ps) (hl : ps.length ≤ 400) : Calls Tryz.prog 28 #[v] w fun e w' => ∃ v' L, e = .returned v' ∧ OwnG tPe.e w w' v' L ∧ IsLv (cov (prs (tus ps))) L ∧ L.length ≤ 400 * 800 := by
  obtain ⟨ad, cap, rfl, h1, h2⟩ := h.shape
  have H := Lib.hid h
  have HL := Lib.hid hl
  unfold maxLen at h2
  obtain ⟨n, hn⟩ : ∃ n, n = ps.length := ⟨_, rfl⟩
  have HN := Lib.hid hn
  obtain ⟨f, hf⟩ : ∃ f, f = cov (prs (tus ps)) := ⟨_, rfl⟩
  have HF := Lib.hid hf
  have HFL := Lib.hid (show ∀ t, f t ≤ n from fun t => by rw [hf, hn, ← prs_len ps]; exact cov_le _ _)
  rw [← hf]
  rw [← hn] at H h1 hl ⊢
  clear hn hf h
  go_enter Tryz.func28, Tryz.ntmps28
  go_wp2_with fail
  refine (bounds_ref ps _ w (by have := H.out; rwa [HN.out] at this) HL.out).mono ?_; rintro e w1 ⟨v1, pts, rfl, hR, hB, hE1⟩
  have HB := Lib.hid hB
  have HP8 := Lib.hid (show pts.length ≤ 800 by
    have h3 := nodup_le pts (bds ps) (hB.asc.imp fun h => by omega) (fun e he => (bds_mem ps e).2 ((hB.mem e).1 he))
    have h4 := bds_len ps
    have := HL.out
    omega)
  have HR := Lib.hid hR
  have HE1 := Lib.hid hE1
  obtain ⟨ap, cp, rfl, g1, g2⟩ := hR.shape
  unfold maxLen at g2
  obtain ⟨np, hnp⟩ : ∃ z, z = pts.length := ⟨_, rfl⟩
  have HNP := Lib.hid hnp
  have hnp8 : np ≤ 800 := by rw [hnp]; exact HP8.out
  rw [← hnp] at g1 HR
  simp only [← hnp]
  clear hnp hB hR hE1
  go_wp2_with fail
  go_loopw [4, 5] (CtR w1 f pts) (fun _ i _ => np - (intOf i).toNat)
  case atStart => exact ⟨0, Nat.zero_le _, rfl, OwnG.nil _ _ _ (Ext.refl _)⟩
  case round =>
    obtain ⟨k, hk, rfl, hO⟩ := hrel
    have hkn : k ≤ np - 1 := by rw [HNP.out]; exact hk
    have hi0 : (0 : Int) ≤ (k : Int) := by omega
    by_cases hlt : k + 1 < np
    · have hlt' : k < pts.length := by rw [← HNP.out]; omega
      obtain ⟨gp, op, rfl, c0'⟩ := rd_I HR.out k hlt'
      have HC := Lib.hid (czL_take (f := f) hlt')
      have hi1 : (k : Int) < (np : Int) := by omega
      have hi2 : (k : Int) + 1 < (np : Int) := by omega
      have hcl : (czL f (pts.take k)).length ≤ 800 := by unfold czL; rw [List.length_map, List.length_take]; omega
      have hdec : decide ((k : Int) + 1 < (np : Int)) = true := by simp; omega
      have HO := Lib.hid hO
      have HCL := Lib.hid hcl
      have K0 := Lib.hid (hO.2.keeps c0')
      clear hO hcl c0'
      generalize pts[k] = t at *
      go_wp2_with fail
      obtain ⟨wA, hwA⟩ : ∃ x, x = wr := ⟨_, rfl⟩
      rw [← hwA] at HO K0 ⊢
      clear hwA
      go_loopw [6, 28] (CnR wA ps t) (fun _ i _ => n - (intOf i).toNat)
      case atStart => exact ⟨0, Nat.zero_le _, rfl, rfl, Ext.refl _⟩
      case round =>
        obtain ⟨j, hj, rfl, rfl, hE⟩ := hrel
        have hjn : j ≤ n := by rw [HN.out]; exact hj
        by_cases hjl : j < n
        · have hjl' : j < ps.length := by rw [← HN.out]; exact hjl
          obtain ⟨g, o, rfl, d0', d1', d2', d3'⟩ := rd_T H.out j hjl'
          have hEE := (HE1.out.trans HO.out.2).trans hE
          have d0 := hEE.keeps d0'
          have d1 := hEE.keeps d1'
          have d2 := hEE.keeps d2'
          have d3 := hEE.keeps d3'
          have q0 := hE.keeps K0.out
          clear d0' d1' d2' d3'
          have HST := Lib.hid (cov_step hjl' t)
          have hcb : cov (prs (tus (ps.take j))) t ≤ 400 := Nat.le_trans (cov_le _ _) (by rw [prs_len, List.length_take]; omega)
          have hj0 : (0 : Int) ≤ (j : Int) := by omega
          have hj1 : (j : Int) < (n : Int) := by omega
          generalize ps[j] = x at *
          obtain ⟨⟨xa, xn, xc, xb, xm, xd⟩, xr, pa, pb⟩ := x
          simp only [Hd.x, Hd.y] at d0 d1 d2 d3 HST
          generalize cov (prs (tus (ps.take j))) t = c at *
          obtain ⟨b0, b1, b2, b3⟩ := box4 wr (.slice xa xn xc) (.int .i64 pa) (.int .i64 pb) (.slice xb xm xd) 42
          have hE0 : Ext wr (wr.alloc (.cells #[.slice xa xn xc, .int .i64 pa, .int .i64 pb, .slice xb xm xd] 42)) := (Ext.refl wr).alloc _ _
          have q1 := hE0.keeps q0
          have hic := fun w2 => inc_ref pa pb t w2
          go_wp2_with fail
          generalize wr.alloc (.cells #[.slice xa xn xc, .int .i64 pa, .int .i64 pb, .slice xb xm xd] 42) = w0 at *
          have B1 := Lib.hid b1
          have B2 := Lib.hid b2
          have Q1 := Lib.hid q1
          have hz : wr.heap.size < w0.heap.size := World.block_lt_of_cell? _ _ b0
          clear b0 b1 b2 b3 q0 q1 d0 d1 d2 d3
          cases hb : incB pa pb t with
          | true =>
            rw [hb] at hic
            rw [if_pos hb] at HST
            have HIC := Lib.hid hic
            clear hic hb
            go_region_held3 (fun w' => w'.cell? ⟨wr.heap.size, 1, none⟩ = some (.int .i64 pa) ∧ w'.cell? ⟨wr.heap.size, 2, none⟩ = some (.int .i64 pb) ∧ w'.cell? ⟨gp, op + k, none⟩ = some (.int .i64 t)) (first | exact ⟨B1.out, B2.out, Q1.out⟩ | exact ⟨f0, f1, f2⟩ | go_keep) (first | (go_at_call 42; refine (HIC.out _).mono ?_; rintro e w3 ⟨rfl, hg3⟩; have e3 : Ext w0 w3 := ext_of_grown hg3; have f0 := e3.keeps B1.out; have f1 := e3.keeps B2.out; have f2 := e3.keeps Q1.out; clear hg3))
            all_goals
              go_wp2_with fail
              go_roundw
              case rel => exact ⟨j + 1, hjl', by go_num, by rw [HST.out]; go_num, (hE.trans hE0).trans e3⟩
              case measure => simp [intOf]; omega
          | false =>
            rw [hb] at hic
            rw [if_neg (by rw [hb]; decide)] at HST
            have HIC := Lib.hid hic
            clear hic hb
            go_region_held3 (fun w' => w'.cell? ⟨wr.heap.size, 1, none⟩ = some (.int .i64 pa) ∧ w'.cell? ⟨wr.heap.size, 2, none⟩ = some (.int .i64 pb) ∧ w'.cell? ⟨gp, op + k, none⟩ = some (.int .i64 t)) (first | exact ⟨B1.out, B2.out, Q1.out⟩ | exact ⟨f0, f1, f2⟩ | go_keep) (first | (go_at_call 42; refine (HIC.out _).mono ?_; rintro e w3 ⟨rfl, hg3⟩; have e3 : Ext w0 w3 := ext_of_grown hg3; have f0 := e3.keeps B1.out; have f1 := e3.keeps B2.out; have f2 := e3.keeps Q1.out; clear hg3))
            all_goals
              go_wp2_with fail
              go_roundw
              case rel => exact ⟨j + 1, hjl', by go_num, by rw [HST.out]; rfl, (hE.trans hE0).trans e3⟩
              case measure => simp [intOf]; omega
        · have hjn' : j = n := by omega
          have hall : ps.take j = ps := by rw [List.take_of_length_le]; rw [← HN.out, hjn']; exact Nat.le_refl _
          have HCV := Lib.hid (show cov (prs (tus (ps.take j))) t = f t by rw [hall, HF.out])
          rw [HCV.out]
          have HE := Lib.hid hE
          have hfn := HFL.out t
          generalize f t = c at *
          clear hE hall
          go_wp2_with (at_builtin; refine appG tI rfl _ _ rfl w1 _ (czL f (pts.take k)) rfl ?a1 _ [(c : Int)] rfl ?a2 ?a3 ?_; (case a1 => exact HO.out.ext (HE.out.trans ((Ext.refl wr).alloc _ _))); (case a2 => exact rd_lit1I wr (c : Int) _ _ rfl); (case a3 => have := HCL.out; simp; omega); intro v5 w5 hO5 hg5)
          go_roundw
          case rel => exact ⟨k + 1, by rw [← HNP.out]; omega, by go_num, by rw [HC.out]; exact hO5⟩
          case measure => simp [intOf]; omega
    · have HKE := Lib.hid (show k = np - 1 by omega)
      have hdec : decide ((k : Int) + 1 < (np : Int)) = false := by simp; omega
      have HO := Lib.hid hO
      have HRC := Lib.hid hO.rd
      have HEB := Lib.hid (HE1.out.trans hO.2)
      obtain ⟨ac, cc, rfl, m1, m2⟩ := hO.rd.shape
      have HCN := Lib.hid (show (czL f (pts.take k)).length = k by unfold czL; rw [List.length_map, List.length_take, ← HNP.out]; omega)
      rw [HCN.out] at m1 HRC
      simp only [HCN.out]
      unfold maxLen at m2
      have hk8 : k ≤ 800 := by omega
      clear hO
      go_wp2_with fail
      obtain ⟨wB, hwB⟩ : ∃ x, x = wr := ⟨_, rfl⟩
      rw [← hwB] at HO HRC HEB ⊢
      clear hwB
      go_loopw [9, 10] (LoR wB f n) (fun _ i _ => n + 1 - (intOf i).toNat)
      case atStart => exact ⟨0, [], Nat.zero_le _, rfl, Lib.hid (LvK.zero f), OwnG.nil _ _ _ (Ext.refl _), Nat.zero_le _⟩
      case round =>
        obtain ⟨q, L, hq, rfl, HK, hOL, hLl⟩ := hrel
        have hq0 : (0 : Int) ≤ (q : Int) := by omega
        by_cases hqn : q < n
        · have hdq : decide ((q : Int) + 1 ≤ (n : Int)) = true := by simp; omega
          have hqi : (q : Int) + 1 ≤ (n : Int) := by omega
          have hL8 : L.length ≤ 400000 := by
            have : q * 800 ≤ 400 * 800 := Nat.mul_le_mul_right _ (by omega)
            omega
          have HOL := Lib.hid hOL
          clear hOL
          go_wp2_with fail
          obtain ⟨wC, hwC⟩ : ∃ x, x = wr := ⟨_, rfl⟩
          rw [← hwC] at HOL ⊢
          clear hwC
          rw [show ((q + 1 : Nat) : Int) = (q : Int) + 1 by omega]
          go_loopw [11, 54] (StR wB f pts (q + 1) L u9) (fun _ i _ => k - (intOf i).toNat)
          case atStart => exact ⟨0, Nat.zero_le _, rfl, ⟨HOL.out, OwnG.nil _ _ _ HOL.out.2, fun g hg e => by cases e⟩⟩
          case round =>
            obtain ⟨j, hj, rfl, hD⟩ := hrel
            have hj0 : (0 : Int) ≤ (j : Int) := by omega
            have hjk : j ≤ k := by have := HKE.out; rw [← HNP.out] at hj; omega
            by_cases hjl : j < k
            · have hjl' : j < (czL f (pts.take k)).length := by rw [HCN.out]; exact hjl
              have hjp : j + 1 < pts.length := by rw [← HNP.out]; omega
              obtain ⟨gc, oc, rfl, c0'⟩ := rd_I HRC.out j hjl'
              have hcz : (czL f (pts.take k))[j] = ((f pts[j] : Nat) : Int) := by simp [czL]
              rw [hcz] at c0'
              obtain ⟨gp, op, rfl, d0'⟩ := rd_I HR.out j (by omega)
              obtain ⟨gp2, op2, e2, d1'⟩ := rd_I HR.out (j + 1) hjp
              simp only [Option.some.injEq, Addr.mk.injEq, and_true] at e2
              obtain ⟨rfl, rfl⟩ := e2
              have c0 := hD.l.2.keeps c0'
              have d0 := (HO.out.2.trans hD.l.2).keeps d0'
              have d1 := (HO.out.2.trans hD.l.2).keeps d1'
              have hgp : gp < wB.heap.size := World.block_lt_of_cell? _ _ (HO.out.2.keeps d0')
              have HPM := Lib.hid (pcs_more (f := f) (k := q + 1) hjp)
              have HPS := Lib.hid (pcs_same (f := f) (k := q + 1) hjp)
              have hpl : (pcs f pts (q + 1) j).length ≤ 800 := by have := pcs_len f pts (q + 1) j; omega
              have hfn := HFL.out pts[j]
              have hj1 : (j : Int) < (k : Int) := by omega
              have hj2 : (j : Int) < (np : Int) := by omega
              have hj3 : (j : Int) + 1 < (np : Int) := by omega
              have hj4 : (0 : Int) ≤ (j : Int) + 1 := by omega
              clear c0' d0' d1' hcz
              generalize pts[j + 1] = t2 at *
              generalize pts[j] = t1 at *
              generalize f t1 = c at *
              have HD := Lib.hid hD
              have HPL := Lib.hid hpl
              clear hD hpl
              by_cases hck : q + 1 ≤ c
              · have HX := Lib.hid (HPM.out hck)
                have hci : (q : Int) + 1 ≤ (c : Int) := by omega
                have K0 := Lib.hid d0
                have K1 := Lib.hid d1
                have HGP := Lib.hid hgp
                have HUB := Lib.hid (fun kk (hh : u11.ownBlock = some kk) => (HD.out.m.blk kk hh).1)
                have EA := Lib.hid (((Ext.refl wr).alloc #[.int .i64 t1, .int .i64 t2] 40).drew)
                have HD0 := Lib.hid (HD.out.ext EA.out)
                clear HPM HPS d0 d1 hgp
                generalize pcs f pts (q + 1) j = os at *
                have hwj : IntKind.i64.wrap ((j : Int) + 1) = (j : Int) + 1 := by simp only [IntKind.wrap, IntKind.bits, IntKind.signed]; simp; omega
                go_wp2_with fail
                go_region_held3 (fun w' => w'.cell? ⟨gp, op + j, none⟩ = some (.int .i64 t1) ∧ w'.cell? ⟨gp, op + (j + 1), none⟩ = some (.int .i64 t2)) (first | exact ⟨K0.out, K1.out⟩ | exact ⟨EA.out.keeps K0.out, EA.out.keeps K1.out⟩ | exact ⟨r0, r1⟩ | go_keep)
                  (first | (refine step_appGL tPe rfl _ _ rfl wB _ os rfl ?a1 _ [((t1, t2) : Int × Int)] rfl ?a2 ?a3 ?_; (case a1 => exact HD0.out.m); (case a2 => exact rd_litG wr [((t1, t2) : Int × Int)] #[.int .i64 t1, .int .i64 t2] 40 _ 1 rfl rfl (by simp) rfl); (case a3 => clear hwj; have := HPL.out; simp; omega); intro v5 w5 hO5 hg5 hl5; have r0 := grow_cell hg5 (EA.out.keeps K0.out) (fun kk hh => by clear hwj; have := HUB.out kk hh; have := HGP.out; omega); have r1 := grow_cell hg5 (EA.out.keeps K1.out) (fun kk hh => by clear hwj; have := HUB.out kk hh; have := HGP.out; omega); have HD5 := Lib.hid (HD0.out.right hO5 hg5 hl5); clear hO5 hg5 hl5))
                all_goals
                  clear hwj
                  go_wp2_with fail
                  go_roundw
                  case rel => exact ⟨j + 1, by rw [← HNP.out]; omega, by go_num, by rw [HX.out]; exact HD5.out⟩
                  case measure => first | (simp [intOf]; done) | (simp [intOf]; omega)
              · have HX := Lib.hid (HPS.out hck)
                have hci : (c : Int) < (q : Int) + 1 := by omega
                clear HPM HPS
                go_wp2_with fail
                go_roundw
                case rel => exact ⟨j + 1, by rw [← HNP.out]; omega, by go_num, by rw [HX.out]; exact HD.out⟩
                case measure => first | (simp [intOf]; done) | (simp [intOf]; omega)
            · have HSET := Lib.hid (show pcs f pts (q + 1) j = pcs f pts (q + 1) (pts.length - 1) by have := HKE.out; rw [show j = pts.length - 1 by rw [← HNP.out]; omega])
              have HD := Lib.hid hD
              have hsl := pcs_len f pts (q + 1) j
              clear hD
              go_wp2_with fail
              refine (norm_refN (pcs f pts (q + 1) j) u11 wr (per_rd HD.out.m.rd)).mono ?_; rintro e w7 ⟨v7, m, rfl, hNF, hMM, hOW, hE7⟩
              have HME := Lib.hid (show ∀ t, memB m t = true ↔ q + 1 ≤ f t from fun t => by rw [hMM, HSET.out, HF.out]; exact pcs_mem HB.out (by omega) t)
              have HML := Lib.hid (show m.length ≤ 800 from Nat.le_trans (nf_le hNF hMM) (by omega))
              have HNF := Lib.hid hNF
              have HDM := Lib.hid (show Duo tPe.e tPe.e wB w7 u9 v7 L m from ⟨(HD.out.l.ext hE7), ⟨owns_low hOW HD.out.l.2.2.2, HD.out.l.2.trans hE7⟩, fun kk hh e => by
                have h1 := HD.out.l.lt kk hh
                have h2 := (show OwnG tPe.e wr w7 v7 m from ⟨hOW, hE7⟩).blk kk e
                have h3 := h2.1
                omega⟩)
              clear hNF hMM hOW hE7 hsl
              obtain ⟨am, cm, rfl, y1, y2⟩ := HDM.out.m.rd.shape
              unfold maxLen at y2
              obtain ⟨nm, hnm⟩ : ∃ z, z = m.length := ⟨_, rfl⟩
              have HNM := Lib.hid hnm
              rw [← hnm] at y1 HDM HML
              simp only [← hnm]
              clear hnm
              go_wp2_with fail
              go_loopw [9, 79] (InR wB L m (.slice am nm cm)) (fun _ i _ => nm - (intOf i).toNat)
              case atStart => exact ⟨0, L, Nat.zero_le _, rfl, HDM.out, Lib.hid (by simp), Lib.hid HK.out.srt⟩
              case round =>
                obtain ⟨i, M, hi, rfl, hDM, HPE, HSO⟩ := hrel
                have hi0 : (0 : Int) ≤ (i : Int) := by omega
                have him : i ≤ nm := by rw [HNM.out]; exact hi
                have hMl : M.length ≤ 500000 := by have h1 := HPE.out.length_eq; have := HML.out; rw [List.length_append, List.length_take] at h1; omega
                by_cases hil : i < nm
                · have hil' : i < m.length := by rw [← HNM.out]; exact hil
                  obtain ⟨gm, om, rfl, cc'⟩ := hDM.m.rd.at i hil'
                  have d0 := cc' 0 _ rfl
                  have d1 := cc' 1 _ rfl
                  simp only [Enc.sz, Nat.add_zero] at d0 d1
                  clear cc'
                  have hi1 : (i : Int) < (nm : Int) := by omega
                  have HTK := Lib.hid (List.take_succ_eq_append_getElem hil')
                  generalize m[i] = p at *
                  obtain ⟨pa, pb⟩ := p
                  simp only at d0 d1
                  have B0 := al0 wr (.int .i64 pa) (.int .i64 pb) 40
                  have B1 := al1 wr (.int .i64 pa) (.int .i64 pb) 40
                  have EX : Ext wr (wr.alloc (.cells #[.int .i64 pa, .int .i64 pb] 40)) := (Ext.refl wr).alloc _ _
                  have HDM2 := Lib.hid hDM
                  have HBL := Lib.hid hDM.l.lt
                  have K0 := Lib.hid B0
                  have K1 := Lib.hid B1
                  have HEX := Lib.hid EX
                  have HLM := Lib.hid hDM.l.rd
                  obtain ⟨ao, co, rfl, o1, o2⟩ := hDM.l.rd.shape
                  obtain ⟨nM, hnM⟩ : ∃ z, z = M.length := ⟨_, rfl⟩
                  have HNMM := Lib.hid hnM
                  rw [← hnM] at HDM2 HBL o1 hMl
                  simp only [← hnM]
                  unfold maxLen at o2
                  clear hDM B0 B1 EX hnM
                  go_wp2_with (at_builtin; refine appGL tPe rfl _ _ rfl wB _ M rfl ?a1 _ [((pa, pb) : Int × Int)] rfl ?a2 ?a3 ?_; (case a1 => exact (HDM2.out.ext (HEX.out.trans ((Ext.refl _).alloc #[.int .i64 pa, .int .i64 pb] 40))).l); (case a2 => exact rd_litG _ [((pa, pb) : Int × Int)] #[.int .i64 pa, .int .i64 pb] 40 _ 1 (alsz _ _).symm rfl (by simp) rfl); (case a3 => have := HNMM.out; simp; omega); intro v5 w5 hO5 hg5 hl5; have hD5 := (HDM2.out.ext (HEX.out.trans ((Ext.refl _).alloc #[.int .i64 pa, .int .i64 pb] 40))).left hO5 hg5 hl5; have q0 := grow_cell hg5 (((Ext.refl _).alloc #[.int .i64 pa, .int .i64 pb] 40).keeps K0.out) (fun kk hh => by have := HBL.out kk hh; omega); have q1 := grow_cell hg5 (((Ext.refl _).alloc #[.int .i64 pa, .int .i64 pb] 40).keeps K1.out) (fun kk hh => by have := HBL.out kk hh; omega); have HNB := Lib.hid (fun g (hg : v5.ownBlock = some g) => show g < wr.heap.size ∨ wr.heap.size + 1 < g from by rcases hl5 with hl5 | ⟨g', k1, k2⟩; exact Or.inl (HBL.out g (hl5.symm.trans hg)); (rw [hg] at k1; injection k1 with k1; rw [alsz, alsz] at k2; exact Or.inr (by omega))); have HD5 := Lib.hid hD5; clear hO5 hg5 hl5 hD5)
                  obtain ⟨bx, hbx⟩ : ∃ z, z = wr.heap.size := ⟨_, rfl⟩
                  have hbn : ∀ g, v5.ownBlock = some g → g ≠ bx := fun g hg e => by
                    have h1 := HD5.out.l.blk g hg
                    obtain ⟨_, cur, h2⟩ := h1
                    have h3 := HNB.out g hg
                    omega
                  rw [← hbx] at q0 q1
                  simp only [← hbx]
                  clear hbx HDM2 HBL HEX HLM K0 K1 d0 d1 HNB
                  obtain ⟨g, c5, rfl, e1, e2, e3⟩ := own_shapeP HD5.out.l (by rw [List.length_append, List.length_singleton]; omega)
                  have hgb : g ≠ bx := hbn g rfl
                  have hl1 : (M ++ [((pa, pb) : Int × Int)]).length = nM + 1 := by rw [List.length_append, List.length_singleton, HNMM.out]
                  rw [hl1] at HD5 e1
                  simp only [hl1]
                  unfold maxLen at e2
                  clear hl1 hbn
                  have HD6 := HD5
                  rw [insX_start] at HD6
                  go_loopw [16] (ShR wB M m (pa, pb) bx (.slice (some ⟨gm, om, none⟩) nm cm) (.slice (some ⟨g, 0, none⟩) (nM + 1) c5)) (fun i _ => (intOf i).toNat)
                  case atStart => exact ⟨M.length, (pa, pb), Nat.le_refl _, by rw [HNMM.out], HD6.out, Lib.hid (fun q hq => by simp at hq), q0, q1⟩
                  case round =>
                    obtain ⟨jj, x, hjj, rfl, hDS, HGT, hb0, hb1⟩ := hrel
                    simp only at hb0 hb1
                    have hjn : jj ≤ nM := by rw [HNMM.out]; exact hjj
                    have hzb : bx < wr.heap.size := World.block_lt_of_cell? _ _ hb0
                    have hzg : g < wr.heap.size := hDS.l.lt g rfl
                    have fz : ∀ t, wr.frozen? ⟨g, t, none⟩ = false := fun t => own_frozen hDS.l t
                    obtain ⟨y0, y1⟩ := own_cells hDS.l jj (by rw [insX_len]; omega) x (insX_self hjj x)
                    cases jj with
                    | zero =>
                      go_wp2_with fail
                      go_quiet (fail)
                      have HWQ := Lib.hid (hDS.ext (show Ext wr (wr.drewN nq) from Ext.refl wr))
                      have z0 : (wr.drewN nq).cell? ⟨bx, 0, none⟩ = some (.int .i64 pa) := hb0
                      have z1 : (wr.drewN nq).cell? ⟨bx, 1, none⟩ = some (.int .i64 pb) := hb1
                      have fz0 : (wr.drewN nq).frozen? ⟨g, 0, none⟩ = false := fz 0
                      have fz1 : (wr.drewN nq).frozen? ⟨g, 1, none⟩ = false := fz 1
                      simp only [Nat.zero_mul, Nat.zero_add] at y0 y1
                      have y2 : (wr.drewN nq).cell? ⟨g, 0, none⟩ = some (.int .i64 x.1) := y0
                      have y3 : (wr.drewN nq).cell? ⟨g, 1, none⟩ = some (.int .i64 x.2) := y1
                      have hzq : g < (wr.drewN nq).heap.size := hzg
                      have hzq2 : bx < (wr.drewN nq).heap.size := hzb
                      clear hb0 hb1 hDS y0 y1 fz
                      generalize wr.drewN nq = wq at *
                      have PQ := put_per HWQ.out (0) pa pb (by rw [insX_len, ← HNMM.out]; omega)
                      rw [insX_set (by rw [← HNMM.out]; omega)] at PQ
                      have HPQ := Lib.hid PQ.1
                      clear PQ
                      go_wp2_with fail
                      go_roundw
                      case rel => exact ⟨i + 1, insX M (0) (pa, pb), hil', by go_num, by simpa using HPQ.out, Lib.hid (by
                        rw [HTK.out]
                        exact (insX_perm M _ _).trans (by rw [← List.append_assoc]; exact HPE.out.append_right _)), Lib.hid (insX_sorted HSO.out (by rw [← HNMM.out]; omega) HGT.out (Or.inl rfl))⟩
                      case measure => first | (simp [intOf]; done) | (simp [intOf]; omega)
                    | succ jj =>
                      have hjl : jj < M.length := by omega
                      obtain ⟨w0', w1'⟩ := own_cells hDS.l jj (by rw [insX_len]; omega) M[jj] (insX_at hjl x)
                      have HSH := Lib.hid (insX_shift hjl)
                      have HGN := Lib.hid (insX_next (p := ((pa, pb) : Int × Int)) hjl HGT.out)
                      have HGE := Lib.hid (fun (h : ¬ ltP2 (pa, pb) M[jj]) => insX_sorted (j := jj + 1) (p := ((pa, pb) : Int × Int)) HSO.out hjj HGT.out (Or.inr ⟨by omega, h⟩))
                      generalize M[jj] = q2 at *
                      obtain ⟨qa, qb⟩ := q2
                      simp only at w0' w1'
                      have hq0 : (0 : Int) ≤ (jj : Int) := by omega
                      have hq1 : (jj : Int) < (nM : Int) + 1 := by omega
                      have hq2 : (jj : Int) + 1 < (nM : Int) + 1 := by omega
                      have hq3 : (jj : Int) < (nM : Int) := by omega
                      have hq4 : (0 : Int) < (jj : Int) + 1 := by omega
                      by_cases ha : pa < qa
                      · have HX := Lib.hid (HGN.out (Or.inl ha))
                        go_wp2_with fail
                        go_quiet (fail)
                        have HWQ := Lib.hid (hDS.ext (show Ext wr (wr.drewN nq) from Ext.refl wr))
                        have z0 : (wr.drewN nq).cell? ⟨bx, 0, none⟩ = some (.int .i64 pa) := hb0
                        have z1 : (wr.drewN nq).cell? ⟨bx, 1, none⟩ = some (.int .i64 pb) := hb1
                        have fz0 : (wr.drewN nq).frozen? ⟨g, (jj + 1) * 2, none⟩ = false := fz _
                        have fz1 : (wr.drewN nq).frozen? ⟨g, (jj + 1) * 2 + 1, none⟩ = false := fz _
                        have y2 : (wr.drewN nq).cell? ⟨g, (jj + 1) * 2, none⟩ = some (.int .i64 x.1) := y0
                        have y3 : (wr.drewN nq).cell? ⟨g, (jj + 1) * 2 + 1, none⟩ = some (.int .i64 x.2) := y1
                        have x2 : (wr.drewN nq).cell? ⟨g, jj * 2, none⟩ = some (.int .i64 qa) := w0'
                        have x3 : (wr.drewN nq).cell? ⟨g, jj * 2 + 1, none⟩ = some (.int .i64 qb) := w1'
                        have hzq : g < (wr.drewN nq).heap.size := hzg
                        have hzq2 : bx < (wr.drewN nq).heap.size := hzb
                        clear hb0 hb1 hDS y0 y1 fz w0' w1'
                        generalize wr.drewN nq = wq at *
                        have PQ := put_per HWQ.out (jj + 1) qa qb (by rw [insX_len, ← HNMM.out]; omega)
                        rw [insX_set (by rw [← HNMM.out]; omega), HSH.out] at PQ
                        have HPQ := Lib.hid PQ.1
                        have HG2 := Lib.hid PQ.2
                        have zz0 := grow_cell PQ.2 z0 (fun kk hh => by injection hh with hh; omega)
                        have zz1 := grow_cell PQ.2 z1 (fun kk hh => by injection hh with hh; omega)
                        have HZZ := Lib.hid (And.intro zz0 zz1)
                        clear PQ zz0 zz1
                        go_wp2_with fail
                        go_roundw
                        case rel => exact ⟨jj, (qa, qb), by omega, by go_num, HPQ.out, HX, HZZ.out.1, HZZ.out.2⟩
                        case measure => first | (simp [intOf]; done) | (simp [intOf]; omega)
                      · by_cases ha2 : qa < pa
                        · have HX := Lib.hid (HGE.out (by unfold ltP2; simp only; omega))
                          have hd1 : decide (pa < qa) = false := by simp; omega
                          have hd2 : (pa == qa) = false := by simp; omega
                          clear ha ha2
                          go_wp2_with fail
                          go_quiet (fail)
                          have HWQ := Lib.hid (hDS.ext (show Ext wr (wr.drewN nq) from Ext.refl wr))
                          have z0 : (wr.drewN nq).cell? ⟨bx, 0, none⟩ = some (.int .i64 pa) := hb0
                          have z1 : (wr.drewN nq).cell? ⟨bx, 1, none⟩ = some (.int .i64 pb) := hb1
                          have fz0 : (wr.drewN nq).frozen? ⟨g, (jj + 1) * 2, none⟩ = false := fz _
                          have fz1 : (wr.drewN nq).frozen? ⟨g, (jj + 1) * 2 + 1, none⟩ = false := fz _
                          have y2 : (wr.drewN nq).cell? ⟨g, (jj + 1) * 2, none⟩ = some (.int .i64 x.1) := y0
                          have y3 : (wr.drewN nq).cell? ⟨g, (jj + 1) * 2 + 1, none⟩ = some (.int .i64 x.2) := y1
                          have x2 : (wr.drewN nq).cell? ⟨g, jj * 2, none⟩ = some (.int .i64 qa) := w0'
                          have x3 : (wr.drewN nq).cell? ⟨g, jj * 2 + 1, none⟩ = some (.int .i64 qb) := w1'
                          have hzq : g < (wr.drewN nq).heap.size := hzg
                          have hzq2 : bx < (wr.drewN nq).heap.size := hzb
                          clear hb0 hb1 hDS y0 y1 fz w0' w1'
                          generalize wr.drewN nq = wq at *
                          have PQ := put_per HWQ.out (jj + 1) pa pb (by rw [insX_len, ← HNMM.out]; omega)
                          rw [insX_set (by rw [← HNMM.out]; omega)] at PQ
                          have HPQ := Lib.hid PQ.1
                          clear PQ
                          go_wp2_with fail
                          go_roundw
                          case rel => exact ⟨i + 1, insX M (jj + 1) (pa, pb), hil', by go_num, by simpa using HPQ.out, Lib.hid (by
                            rw [HTK.out]
                            exact (insX_perm M _ _).trans (by rw [← List.append_assoc]; exact HPE.out.append_right _)), HX⟩
                          case measure => first | (simp [intOf]; done) | (simp [intOf]; omega)
                        · obtain rfl : pa = qa := by omega
                          by_cases hbb : pb < qb
                          · have HX := Lib.hid (HGN.out (Or.inr ⟨rfl, hbb⟩))
                            go_wp2_with fail
                            go_quiet (fail)
                            have HWQ := Lib.hid (hDS.ext (show Ext wr (wr.drewN nq) from Ext.refl wr))
                            have z0 : (wr.drewN nq).cell? ⟨bx, 0, none⟩ = some (.int .i64 pa) := hb0
                            have z1 : (wr.drewN nq).cell? ⟨bx, 1, none⟩ = some (.int .i64 pb) := hb1
                            have fz0 : (wr.drewN nq).frozen? ⟨g, (jj + 1) * 2, none⟩ = false := fz _
                            have fz1 : (wr.drewN nq).frozen? ⟨g, (jj + 1) * 2 + 1, none⟩ = false := fz _
                            have y2 : (wr.drewN nq).cell? ⟨g, (jj + 1) * 2, none⟩ = some (.int .i64 x.1) := y0
                            have y3 : (wr.drewN nq).cell? ⟨g, (jj + 1) * 2 + 1, none⟩ = some (.int .i64 x.2) := y1
                            have x2 : (wr.drewN nq).cell? ⟨g, jj * 2, none⟩ = some (.int .i64 pa) := w0'
                            have x3 : (wr.drewN nq).cell? ⟨g, jj * 2 + 1, none⟩ = some (.int .i64 qb) := w1'
                            have hzq : g < (wr.drewN nq).heap.size := hzg
                            have hzq2 : bx < (wr.drewN nq).heap.size := hzb
                            clear hb0 hb1 hDS y0 y1 fz w0' w1'
                            generalize wr.drewN nq = wq at *
                            have PQ := put_per HWQ.out (jj + 1) pa qb (by rw [insX_len, ← HNMM.out]; omega)
                            rw [insX_set (by rw [← HNMM.out]; omega), HSH.out] at PQ
                            have HPQ := Lib.hid PQ.1
                            have HG2 := Lib.hid PQ.2
                            have zz0 := grow_cell PQ.2 z0 (fun kk hh => by injection hh with hh; omega)
                            have zz1 := grow_cell PQ.2 z1 (fun kk hh => by injection hh with hh; omega)
                            have HZZ := Lib.hid (And.intro zz0 zz1)
                            clear PQ zz0 zz1
                            go_wp2_with fail
                            go_roundw
                            case rel => exact ⟨jj, (pa, qb), by omega, by go_num, HPQ.out, HX, HZZ.out.1, HZZ.out.2⟩
                            case measure => first | (simp [intOf]; done) | (simp [intOf]; omega)
                          · have HX := Lib.hid (HGE.out (by unfold ltP2; simp only; omega))
                            go_wp2_with fail
                            go_quiet (fail)
                            have HWQ := Lib.hid (hDS.ext (show Ext wr (wr.drewN nq) from Ext.refl wr))
                            have z0 : (wr.drewN nq).cell? ⟨bx, 0, none⟩ = some (.int .i64 pa) := hb0
                            have z1 : (wr.drewN nq).cell? ⟨bx, 1, none⟩ = some (.int .i64 pb) := hb1
                            have fz0 : (wr.drewN nq).frozen? ⟨g, (jj + 1) * 2, none⟩ = false := fz _
                            have fz1 : (wr.drewN nq).frozen? ⟨g, (jj + 1) * 2 + 1, none⟩ = false := fz _
                            have y2 : (wr.drewN nq).cell? ⟨g, (jj + 1) * 2, none⟩ = some (.int .i64 x.1) := y0
                            have y3 : (wr.drewN nq).cell? ⟨g, (jj + 1) * 2 + 1, none⟩ = some (.int .i64 x.2) := y1
                            have x2 : (wr.drewN nq).cell? ⟨g, jj * 2, none⟩ = some (.int .i64 pa) := w0'
                            have x3 : (wr.drewN nq).cell? ⟨g, jj * 2 + 1, none⟩ = some (.int .i64 qb) := w1'
                            have hzq : g < (wr.drewN nq).heap.size := hzg
                            have hzq2 : bx < (wr.drewN nq).heap.size := hzb
                            clear hb0 hb1 hDS y0 y1 fz w0' w1'
                            generalize wr.drewN nq = wq at *
                            have PQ := put_per HWQ.out (jj + 1) pa pb (by rw [insX_len, ← HNMM.out]; omega)
                            rw [insX_set (by rw [← HNMM.out]; omega)] at PQ
                            have HPQ := Lib.hid PQ.1
                            clear PQ
                            go_wp2_with fail
                            go_roundw
                            case rel => exact ⟨i + 1, insX M (jj + 1) (pa, pb), hil', by go_num, by simpa using HPQ.out, Lib.hid (by
                              rw [HTK.out]
                              exact (insX_perm M _ _).trans (by rw [← List.append_assoc]; exact HPE.out.append_right _)), HX⟩
                            case measure => first | (simp [intOf]; done) | (simp [intOf]; omega)
                · have hie : i = nm := by omega
                  have hall : m.take i = m := by rw [List.take_of_length_le]; rw [← HNM.out, hie]; exact Nat.le_refl _
                  have HNX := Lib.hid (HK.out.next HNF.out HME.out (by have := HPE.out; rwa [hall] at this) HSO.out)
                  have HMO := Lib.hid hDM.l
                  have HML2 := Lib.hid (show M.length ≤ (q + 1) * 800 by
                    have h1 := HPE.out.length_eq
                    have := HML.out
                    have h3 := HNM.out
                    rw [hall, List.length_append] at h1
                    rw [Nat.succ_mul]
                    omega)
                  clear hDM hall hMl
                  go_wp2_with fail
                  go_roundw
                  case rel => exact ⟨q + 1, M, by omega, by go_num, HNX, HMO.out, HML2.out⟩
                  case measure => first | (simp [intOf]; done) | (simp [intOf]; omega)
        · have hqe : q = n := by omega
          have HLV := Lib.hid (HK.out.done (by rw [hqe]; exact HFL.out))
          have HOL := Lib.hid hOL
          have HLL := Lib.hid (show L.length ≤ 400 * 800 from Nat.le_trans hLl (Nat.mul_le_mul_right _ (by omega)))
          clear hOL
          go_wp2_with fail
          go_ret
          exact ⟨_, L, rfl, HOL.out.base HEB.out, HLV.out, HLL.out⟩
end Go.Proofs.YtnckdopphimgoaaGreat
