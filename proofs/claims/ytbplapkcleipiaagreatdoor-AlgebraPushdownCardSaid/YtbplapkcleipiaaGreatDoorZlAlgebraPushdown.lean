/- The law AlgebraPushdown. -/
import Derived.Test.YtbplapkcleipiaaGreatDoorZq4
import Derived.Test.YtbplapkcleipiaaGreatDoorZq6
import Derived.Test.YtbplapkcleipiaaGreatDoorZq5
import Derived.Test.YtbplapkcleipiaaGreatDoorZq7
namespace Go.Proofs.YtbplapkcleipiaaGreatDoor
open Go.ChangeShapes Go.WideShapes Go.ChangeAt Go.RowKit

set_option maxHeartbeats 16000000 in
set_option maxRecDepth 100000 in
theorem law_AlgebraPushdown (l1 l2 : List Five) (p0 p1 p2 p3 : Nat) (op : Int) (v1 v2 : Value) (w : World) (hG : PT w) (h1 : RdG w v1 l1) (h2 : RdG w v2 l2) (ok1 : ∀ x ∈ l1, x.ok) (ok2 : ∀ x ∈ l2, x.ok) (k0 : p0 ≤ 65535) (k1 : p1 ≤ 65535) (k2 : p2 ≤ 65535) (k3 : p3 ≤ 65535) (o0 : 0 ≤ op) (_o1 : op ≤ 255) :
    Calls Tryz.prog 4 #[v1, v2, .agg #[.int .u16 p0, .int .u16 p1, .int .u16 p2, .int .u16 p3], .int .u8 op] w fun e w' => e = .returned (.bool true) ∧ Ext w w' := by
  obtain ⟨q, hq⟩ : ∃ q : Nat, (q : Int) = op % 3 := ⟨(op % 3).toNat, by omega⟩
  have hq3 : q < 3 := by omega
  have t1 : Int.tmod op 3 = (q : Int) := by rw [Int.tmod_eq_emod_of_nonneg o0]; exact hq.symm
  have t2 : op % 3 = (q : Int) := hq.symm
  have t3 : IntKind.u8.wrap (q : Int) = (q : Int) := by simp only [IntKind.wrap, IntKind.bits, IntKind.signed]; simp; omega
  obtain ⟨kd, hkd⟩ : ∃ kd : Int, kd = 6 + (q : Int) := ⟨_, rfl⟩
  have HK := Lib.hid (show kd = 6 ∨ kd = 7 ∨ kd = 8 by omega)
  obtain ⟨W1, hW1⟩ : ∃ W1, W1 = w.alloc (.cells #[.int .u16 p0, .int .u16 p1, .int .u16 p2, .int .u16 p3] 40) := ⟨_, rfl⟩
  obtain ⟨W2, hW2⟩ : ∃ W2, W2 = W1.alloc (.cells #[.int .i64 6, .int .i64 7, .int .i64 8] 3) := ⟨_, rfl⟩
  have EX := Lib.hid (show Ext w W2 by rw [hW2, hW1]; exact ((Ext.refl _).alloc _ _).alloc _ _)
  have HB := Lib.hid (show Bxn w.heap.size [.int .u16 p0, .int .u16 p1, .int .u16 p2, .int .u16 p3] W2 by rw [hW2, hW1]; exact (Bxn.new w _ _).ext ((Ext.refl _).alloc _ _))
  have hs1 : W1.heap.size = w.heap.size + 1 := by rw [hW1]; simp
  have hc : W2.cell? ⟨w.heap.size + 1, q, none⟩ = some (.int .i64 kd) := by
    rw [← hs1, hW2, hkd]
    rcases (show q = 0 ∨ q = 1 ∨ q = 2 by omega) with rfl | rfl | rfl
    · exact al_c W1 _ _ 0 _ rfl
    · exact al_c W1 _ _ 1 _ rfl
    · exact al_c W1 _ _ 2 _ rfl
  rw [hW2, hW1] at hc
  have HR1 := Lib.hid (rows_law 8 (by omega) l1 v1 W2 (h1.ext EX.out) ok1)
  have HR2 := Lib.hid (fun w' (hE : Ext W2 w') => rows_law 8 (by omega) l2 v2 w' ((h2.ext EX.out).ext hE) ok2)
  have HND := Lib.hid (fun ms vl w' hb hm hl => nodes_prg ms hb hm p0 p1 p2 p3 k0 k1 k2 k3 vl w' hl)
  have HGX := Lib.hid (prdX_good 10 (by omega) 0 [1, 2] p0 p1 p2 p3)
  have HOK := Lib.hid (show 2 ≤ (prdX 0 [1, 2] p0 p1 p2 p3).length ∧ (prdX 0 [1, 2] p0 p1 p2 p3).length ≤ 4 ∧ prdC (prdX 0 [1, 2] p0 p1 p2 p3) (((prdX 0 [1, 2] p0 p1 p2 p3).length - 1 : Nat) : Int) [1, 2] = ([1, 2], 0) by
    have h := prdX_ok [] [1, 2] p0 p1 p2 p3 ⟨by decide, by decide⟩ (by decide)
    simp only [List.length_nil, List.nil_append, Nat.zero_add] at h
    exact ⟨h.1.1, h.1.2, h.2⟩)
  generalize prdX 0 [1, 2] p0 p1 p2 p3 = es at *
  obtain ⟨pr, hpr⟩ : ∃ pr : Int, pr = ((es.length - 1 : Nat) : Int) := ⟨_, rfl⟩
  rw [← hpr] at HND HOK
  have HG := Lib.hid (hG.ext EX.out)
  have HW2 := Lib.hid hW2
  have HW1 := Lib.hid hW1
  have B0 := Lib.hid (HB.out.2 0 _ rfl).1
  have B1 := Lib.hid (HB.out.2 1 _ rfl).1
  have B2 := Lib.hid (HB.out.2 2 _ rfl).1
  have B3 := Lib.hid (HB.out.2 3 _ rfl).1
  obtain ⟨a1, c1, rfl, _, _⟩ := h1.shape
  obtain ⟨a2, c2, rfl, _, _⟩ := h2.shape
  have hq0 : (0 : Int) ≤ (q : Int) := by omega
  have hq4 : (q : Int) < 3 := by omega
  clear h1 h2 ok1 ok2 hG hW1 hW2 hpr hkd hq o0 k0 k1 k2 k3 hs1
  go_enter Tryz.func4, Tryz.ntmps4
  go_wp2_with fail
  rw [← HW1.out, ← HW2.out]
  refine HR1.out.mono ?_; rintro e w1 ⟨x1, ps, rfl, p1, p2, p3, p4, hE1⟩
  have HP := Lib.hid p1
  have HPA := Lib.hid p2
  have HP3 := Lib.hid p3
  have HP4 := Lib.hid p4
  have HE1 := Lib.hid hE1
  obtain ⟨xa, xc, rfl, _, _⟩ := p1.shape
  clear p1 p2 p3 p4 hE1 hc
  go_wp2_with fail
  refine (HR2.out _ HE1.out).mono ?_; rintro e w2 ⟨x2, qs, rfl, q1, q2, q3, q4, hE2⟩
  have HQ := Lib.hid q1
  have HQA := Lib.hid q2
  have HQ3 := Lib.hid q3
  have HQ4 := Lib.hid q4
  have HE2 := Lib.hid hE2
  have HE02 := Lib.hid (HE1.out.trans hE2)
  obtain ⟨ya, yc, rfl, _, _⟩ := q1.shape
  clear q1 q2 q3 q4 hE2
  go_wp2_with fail
  refine (rowdb_prg (rows ps) (rows qs) _ _ w2 (rdR_of (HP.out.ext HE2.out) (fun p hp => (HPA.out p hp).ext HE2.out)) (rdR_of HQ.out HQA.out)).mono ?_; rintro e w3 ⟨vd, rfl, hd, hE3⟩
  have HD := Lib.hid hd
  have HE03 := Lib.hid (HE02.out.trans hE3)
  obtain ⟨da, dc, rfl, _, _⟩ := hd.shape
  have HXL := Lib.hid (show (rows ps).length ≤ 8 by rw [rows_len]; exact HP3.out)
  have HYL := Lib.hid (show (rows qs).length ≤ 8 by rw [rows_len]; exact HQ3.out)
  have HXX := Lib.hid (gd_rows HP4.out)
  have HYY := Lib.hid (gd_rows HQ4.out)
  generalize rows ps = x at *
  generalize rows qs = y at *
  have HEV := Lib.hid (fun (ns : List Nd) (z : List R) (vn ve : Value) (w' : World) (hE : Ext w3 w') (hn : RdN w' vn ns) (he : RdG w' ve es) (hb : Bare ns) (hz : evQ clsF es (dbs x y) ns = (sortR z, 0)) =>
    two_eval es ns z x y vn ve _ w' (HG.out.ext (HE03.out.trans hE)) hn he (HD.out.ext hE) HXX.out HYY.out HGX.out hb hz)
  clear hd hE3
  have b0 := HE03.out.keeps B0.out
  have b1 := HE03.out.keeps B1.out
  have b2 := HE03.out.keeps B2.out
  have b3 := HE03.out.keeps B3.out
  go_wp2_with fail
  refine (HND.out [⟨kd, 0, 1, 0, [], [], []⟩, ⟨2, 2, 0, 0, [], [], []⟩] _ _ (by intro n hn; simp only [List.mem_cons, List.not_mem_nil, or_false] at hn; rcases hn with rfl | rfl <;> exact ⟨rfl, rfl⟩) (by simp) (rd_litG w3 ([⟨hd0, ⟨kd, 0, 1, 0, [], [], []⟩⟩, ⟨hd0, ⟨2, 2, 0, 0, [], [], []⟩⟩] : List NdP) #[.int .i64 kd, .int .i64 0, .int .i64 1, .int .i64 0, sv [], .slice none 0 0, .slice none 0 0, .int .i64 2, .int .i64 2, .int .i64 0, .int .i64 0, sv [], .slice none 0 0, .slice none 0 0] 45 _ 2 rfl rfl (by simp) rfl)).mono ?_; rintro e yA ⟨vnA, veA, rfl, hnA, heA, hE'⟩
  have HEA := Lib.hid (show Ext w3 yA from ((Ext.refl w3).alloc #[.int .i64 kd, .int .i64 0, .int .i64 1, .int .i64 0, sv [], .slice none 0 0, .slice none 0 0, .int .i64 2, .int .i64 2, .int .i64 0, .int .i64 0, sv [], .slice none 0 0, .slice none 0 0] 45).trans hE')
  have HNA := Lib.hid hnA
  have HXA := Lib.hid heA
  clear hE' hnA heA
  go_wp2_with fail
  refine (HEV.out (pqA kd pr) (selL es pr (twoL kd x y)) vnA veA yA HEA.out (by have h := HNA.out; exact h) HXA.out (by intro n hn; simp only [pqA, List.mem_cons, List.not_mem_nil, or_false] at hn; rcases hn with rfl | rfl | rfl | rfl <;> exact ⟨rfl, rfl⟩) (pqA_ev HK.out (by have := HOK.out.2.1; omega) HOK.out.2.2 (by have := HXL.out; omega) (by have := HYL.out; omega) (by have := two_len HK.out x y; have := HXL.out; have := HYL.out; omega))).mono ?_; rintro e zA ⟨aA, cA, dA, rfl, r1, r2, r3, hE'⟩
  have HZA := Lib.hid (show Ext w3 zA from HEA.out.trans hE')
  have HSA2 := Lib.hid (evq_good (Z := Z5) HGX.out (dbs_bd HXX.out HYY.out) (pqA_ev HK.out (by have := HOK.out.2.1; omega) HOK.out.2.2 (by have := HXL.out; omega) (by have := HYL.out; omega) (by have := two_len HK.out x y; have := HXL.out; have := HYL.out; omega)))
  have HRA := Lib.hid r1
  have HAA := Lib.hid r2
  have HSA := Lib.hid r3
  clear hE' r1 r2 r3
  clear b0 b1 b2 b3
  have b0 := (HE03.out.trans HZA.out).keeps B0.out
  have b1 := (HE03.out.trans HZA.out).keeps B1.out
  have b2 := (HE03.out.trans HZA.out).keeps B2.out
  have b3 := (HE03.out.trans HZA.out).keeps B3.out
  go_wp2_with fail
  refine (HND.out [⟨2, 0, 0, 0, [], [], []⟩, ⟨2, 1, 0, 0, [], [], []⟩, ⟨kd, 2, 3, 0, [], [], []⟩] _ _ (by intro n hn; simp only [List.mem_cons, List.not_mem_nil, or_false] at hn; rcases hn with rfl | rfl | rfl <;> exact ⟨rfl, rfl⟩) (by simp) (rd_litG zA ([⟨hd0, ⟨2, 0, 0, 0, [], [], []⟩⟩, ⟨hd0, ⟨2, 1, 0, 0, [], [], []⟩⟩, ⟨hd0, ⟨kd, 2, 3, 0, [], [], []⟩⟩] : List NdP) #[.int .i64 2, .int .i64 0, .int .i64 0, .int .i64 0, sv [], .slice none 0 0, .slice none 0 0, .int .i64 2, .int .i64 1, .int .i64 0, .int .i64 0, sv [], .slice none 0 0, .slice none 0 0, .int .i64 kd, .int .i64 2, .int .i64 3, .int .i64 0, sv [], .slice none 0 0, .slice none 0 0] 45 _ 3 rfl rfl (by simp) rfl)).mono ?_; rintro e yB ⟨vnB, veB, rfl, hnB, heB, hE'⟩
  have HFB := Lib.hid ((((Ext.refl zA).alloc #[.int .i64 2, .int .i64 0, .int .i64 0, .int .i64 0, sv [], .slice none 0 0, .slice none 0 0, .int .i64 2, .int .i64 1, .int .i64 0, .int .i64 0, sv [], .slice none 0 0, .slice none 0 0, .int .i64 kd, .int .i64 2, .int .i64 3, .int .i64 0, sv [], .slice none 0 0, .slice none 0 0] 45)).trans hE')
  have HEB := Lib.hid (show Ext w3 yB from (HZA.out.alloc #[.int .i64 2, .int .i64 0, .int .i64 0, .int .i64 0, sv [], .slice none 0 0, .slice none 0 0, .int .i64 2, .int .i64 1, .int .i64 0, .int .i64 0, sv [], .slice none 0 0, .slice none 0 0, .int .i64 kd, .int .i64 2, .int .i64 3, .int .i64 0, sv [], .slice none 0 0, .slice none 0 0] 45).trans hE')
  have HNB := Lib.hid hnB
  have HXB := Lib.hid heB
  clear hE' hnB heB
  go_wp2_with fail
  refine (HEV.out (pqB kd pr) (twoL kd (selL es pr x) (selL es pr y)) vnB veB yB HEB.out (by have h := HNB.out; exact h) HXB.out (by intro n hn; simp only [pqB, List.mem_cons, List.not_mem_nil, or_false] at hn; rcases hn with rfl | rfl | rfl | rfl | rfl <;> exact ⟨rfl, rfl⟩) (pqB_ev HK.out (by have := HOK.out.2.1; omega) HOK.out.2.2 (by have := HXL.out; omega) (by have := HYL.out; omega) (by have := two_len HK.out (selL es pr x) (selL es pr y); have := sel_len es pr x; have := sel_len es pr y; have := HXL.out; have := HYL.out; omega))).mono ?_; rintro e zB ⟨aB, cB, dB, rfl, r1, r2, r3, hE'⟩
  have HZB := Lib.hid (show Ext w3 zB from HEB.out.trans hE')
  have HFC := Lib.hid (HFB.out.trans hE')
  have HSB2 := Lib.hid (evq_good (Z := Z5) HGX.out (dbs_bd HXX.out HYY.out) (pqB_ev HK.out (by have := HOK.out.2.1; omega) HOK.out.2.2 (by have := HXL.out; omega) (by have := HYL.out; omega) (by have := two_len HK.out (selL es pr x) (selL es pr y); have := sel_len es pr x; have := sel_len es pr y; have := HXL.out; have := HYL.out; omega)))
  have HRB := Lib.hid r1
  have HAB := Lib.hid r2
  have HSB := Lib.hid r3
  clear hE' r1 r2 r3
  clear b0 b1 b2 b3
  rw [← HSA.out] at HSA2
  rw [← HSB.out] at HSB2
  have HLA := Lib.hid (show dA.length ≤ 4096 by rw [← rows_len]; exact HSA2.out.1)
  have HLB := Lib.hid (show dB.length ≤ 4096 by rw [← rows_len]; exact HSB2.out.1)
  have HMA := Lib.hid (show Small dA from small_good (by simp [Z5]) HSA2.out.2)
  have HMB := Lib.hid (show Small dB from small_good (by simp [Z5]) HSB2.out.2)
  have HCT := Lib.hid (fun v : List V => show cnt (rows dA) v = cnt (rows dB) v by
    rw [HSA.out, HSB.out, cnt_perm (sortR_perm _), cnt_perm (sortR_perm _)]
    exact push_cnt HK.out es pr x y v)
  have HRA2 := Lib.hid (HRA.out.ext HFC.out)
  have HAA2 := Lib.hid (show RdAll zB dA from fun p hp => (HAA.out p hp).ext HFC.out)
  have HUN := Lib.hid (show kd = 6 → rows dA = rows dB from fun h => by
    rw [HSA.out, HSB.out, h, push_union])
  have HKD := HK.out
  clear HSA2 HSB2 HSA HSB HRA HAA HEV HND
  go_wp2_with fail
  refine (bagDiff_prg dA dB _ _ zB HRA2.out HRB.out HAA2.out HAB.out (by have := HLA.out; omega) (by have := HLB.out; omega) HMA.out HMB.out).mono ?_
  rintro e u1 ⟨o1, o2, os, ot, rfl, ⟨f1, f2, f3⟩, ⟨g1, g2, g3⟩, hE'⟩
  have hos : os = [] := by
    have h0 : rows os = [] := by
      rw [f3, sur_nil]
      intro v
      rw [cnt_perm (sortR_perm _), HCT.out]
      exact Nat.le_refl _
    exact List.eq_nil_of_length_eq_zero (by rw [← rows_len, h0]; rfl)
  have hot : ot = [] := by
    have h0 : rows ot = [] := by
      rw [g3, sur_nil]
      intro v
      rw [cnt_perm (sortR_perm _), HCT.out]
      exact Nat.le_refl _
    exact List.eq_nil_of_length_eq_zero (by rw [← rows_len, h0]; rfl)
  subst hos hot
  obtain ⟨_, _, rfl, _, _⟩ := f1.shape
  obtain ⟨_, _, rfl, _, _⟩ := g1.shape
  have HEU := Lib.hid (HZB.out.trans hE')
  have HRA3 := Lib.hid (HRA2.out.ext hE')
  have HRB3 := Lib.hid (HRB.out.ext hE')
  have HAA3 := Lib.hid (show RdAll u1 dA from fun p hp => (HAA2.out p hp).ext hE')
  have HAB3 := Lib.hid (show RdAll u1 dB from fun p hp => (HAB.out p hp).ext hE')
  clear f1 f2 f3 g1 g2 g3 hE' HRA2 HRB HAA2 HAB
  go_wp2_with fail
  refine (awake_law _ (HG.out.ext (HE03.out.trans HEU.out))).mono ?_; rintro e u2 ⟨rfl, hE2⟩
  have HE9 := Lib.hid hE2
  clear hE2
  by_cases h6 : kd = 6
  · have HT := Lib.hid (show srB (rows dA) (rows dB) = true by unfold srB; rw [decide_eq_true_iff]; exact HUN.out h6)
    subst h6
    go_wp2_with fail
    refine (sameRows_ref dA dB _ _ u2 (HRA3.out.ext HE9.out) (HRB3.out.ext HE9.out) (fun p hp => (HAA3.out p hp).ext HE9.out) (fun p hp => (HAB3.out p hp).ext HE9.out)).mono ?_
    rintro e u3 ⟨rfl, hE3⟩
    rw [HT.out]
    go_wp2_with fail
    go_ret
    exact ⟨rfl, (((EX.out.trans HE03.out).trans HEU.out).trans HE9.out).trans hE3⟩
  · have h6b : (kd == 6) = false := by simpa using h6
    go_wp2_with fail
    go_ret
    exact ⟨rfl, ((EX.out.trans HE03.out).trans HEU.out).trans HE9.out⟩
theorem law_AlgebraPushdownI (l1 l2 : List Five) (p0 p1 p2 p3 op : Int) (v1 v2 : Value) (w : World) (hG : PT w) (h1 : RdG w v1 l1) (h2 : RdG w v2 l2) (ok1 : ∀ x ∈ l1, x.ok) (ok2 : ∀ x ∈ l2, x.ok) (k0 : 0 ≤ p0 ∧ p0 ≤ 65535) (k1 : 0 ≤ p1 ∧ p1 ≤ 65535) (k2 : 0 ≤ p2 ∧ p2 ≤ 65535) (k3 : 0 ≤ p3 ∧ p3 ≤ 65535) (o : 0 ≤ op ∧ op ≤ 255) :
    Calls Tryz.prog 4 #[v1, v2, .agg #[.int .u16 p0, .int .u16 p1, .int .u16 p2, .int .u16 p3], .int .u8 op] w fun e w' => e = .returned (.bool true) ∧ Ext w w' := by
  obtain ⟨q0, rfl⟩ := Int.eq_ofNat_of_zero_le k0.1
  obtain ⟨q1, rfl⟩ := Int.eq_ofNat_of_zero_le k1.1
  obtain ⟨q2, rfl⟩ := Int.eq_ofNat_of_zero_le k2.1
  obtain ⟨q3, rfl⟩ := Int.eq_ofNat_of_zero_le k3.1
  exact law_AlgebraPushdown l1 l2 q0 q1 q2 q3 op v1 v2 w hG h1 h2 ok1 ok2 (by omega) (by omega) (by omega) (by omega) o.1 o.2
end Go.Proofs.YtbplapkcleipiaaGreatDoor
