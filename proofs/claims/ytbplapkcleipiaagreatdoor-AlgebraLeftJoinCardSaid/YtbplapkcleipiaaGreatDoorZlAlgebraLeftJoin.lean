/- The law AlgebraLeftJoin. -/
import Derived.Test.YtbplapkcleipiaaGreatDoorZq4
import Derived.Test.YtbplapkcleipiaaGreatDoorZq6
import Derived.Test.YtbplapkcleipiaaGreatDoorZq5
import Derived.Test.YtbplapkcleipiaaGreatDoorZq7
import Derived.Test.YtbplapkcleipiaaGreatDoorZz43
namespace Go.Proofs.YtbplapkcleipiaaGreatDoor
open Go.ChangeShapes Go.WideShapes Go.ChangeAt Go.RowKit

theorem kinds_own (w : World) : Calls Tryz.prog 21 #[] w fun e w' => ∃ a c, e = .returned (.slice a 2 c) ∧ OwnG tI.e w w' (.slice a 2 c) ([1, 2] : List Int) := by
  go_enter Tryz.func21, Tryz.ntmps21
  go_wp2_with fail
  go_ret
  exact ⟨_, _, rfl, own_litB tI.e (Ext.refl w) ([1, 2] : List Int) #[.int .i64 1, .int .i64 2] w.heap.size 2 rfl rfl (by simp) rfl⟩
set_option maxHeartbeats 16000000 in
set_option maxRecDepth 100000 in
theorem law_AlgebraLeftJoin (l1 l2 : List Five) (p0 p1 p2 p3 : Nat) (v1 v2 : Value) (w : World) (hG : PT w) (h1 : RdG w v1 l1) (h2 : RdG w v2 l2) (ok1 : ∀ x ∈ l1, x.ok) (ok2 : ∀ x ∈ l2, x.ok) (k0 : p0 ≤ 65535) (k1 : p1 ≤ 65535) (k2 : p2 ≤ 65535) (k3 : p3 ≤ 65535) :
    Calls Tryz.prog 6 #[v1, v2, .agg #[.int .u16 p0, .int .u16 p1, .int .u16 p2, .int .u16 p3]] w fun e w' => e = .returned (.bool true) ∧ Ext w w' := by
  obtain ⟨W1, hW1⟩ : ∃ W1, W1 = w.alloc (.cells #[.int .u16 p0, .int .u16 p1, .int .u16 p2, .int .u16 p3] 40) := ⟨_, rfl⟩
  have EX := Lib.hid (show Ext w W1 by rw [hW1]; exact (Ext.refl _).alloc _ _)
  have HB := Lib.hid (show Bxn w.heap.size [.int .u16 p0, .int .u16 p1, .int .u16 p2, .int .u16 p3] W1 by rw [hW1]; exact Bxn.new w _ _)
  have HR1 := Lib.hid (rows_law 8 (by omega) l1 v1 W1 (h1.ext EX.out) ok1)
  have HR2 := Lib.hid (fun w' (hE : Ext W1 w') => rows_law 8 (by omega) l2 v2 w' ((h2.ext EX.out).ext hE) ok2)
  have HND := Lib.hid (fun ms vl w' hm hl => nodes_own ms hm p0 p1 p2 p3 k0 k1 k2 k3 vl w' hl)
  have HPR := Lib.hid (fun (va : Option Addr) (vc : Nat) (w : World) (h : RdG w (.slice va 4 vc) ([1, 2, 1, 2] : List Int)) => (prd_prg [] [1, 2, 1, 2] p0 p1 p2 p3 (.slice none 0 0) va vc w w (OwnG.nil _ _ _ (Ext.refl w)) h (off_old h) (by decide) (by decide) (by decide) k0 k1 k2 k3).mono (R' := fun e w' => ∃ v', e = .returned (.tuple #[v', .int .i64 (((prdX 0 [1, 2, 1, 2] p0 p1 p2 p3).length - 1 : Nat) : Int)]) ∧ OwnG tX.e w w' v' (prdX 0 [1, 2, 1, 2] p0 p1 p2 p3)) (fun e w' ⟨v', h1, h2, _, _⟩ => ⟨v', by rw [h1]; simp, by simpa using h2⟩))
  have HKO := Lib.hid (fun w => kinds_own w)
  have HGX := Lib.hid (prdX_good 10 (by omega) 0 [1, 2, 1, 2] p0 p1 p2 p3)
  have HOK := Lib.hid (show 2 ≤ (prdX 0 [1, 2, 1, 2] p0 p1 p2 p3).length ∧ (prdX 0 [1, 2, 1, 2] p0 p1 p2 p3).length ≤ 4 ∧ prdC (prdX 0 [1, 2, 1, 2] p0 p1 p2 p3) (((prdX 0 [1, 2, 1, 2] p0 p1 p2 p3).length - 1 : Nat) : Int) [1, 2, 1, 2] = ([1, 2, 1, 2], 0) by
    have h := prdX_ok [] [1, 2, 1, 2] p0 p1 p2 p3 ⟨by decide, by decide⟩ (by decide)
    simp only [List.length_nil, List.nil_append, Nat.zero_add] at h
    exact ⟨h.1.1, h.1.2, h.2⟩)
  generalize prdX 0 [1, 2, 1, 2] p0 p1 p2 p3 = es at *
  generalize prdX 0 [1, 2] p0 p1 p2 p3 = fs at *
  obtain ⟨pr, hpr⟩ : ∃ pr : Int, pr = ((es.length - 1 : Nat) : Int) := ⟨_, rfl⟩
  obtain ⟨pf, hpf⟩ : ∃ pf : Int, pf = ((fs.length - 1 : Nat) : Int) := ⟨_, rfl⟩
  rw [← hpr] at HOK HPR
  rw [← hpf] at HND
  have HG := Lib.hid (hG.ext EX.out)
  have HW1 := Lib.hid hW1
  have B0 := Lib.hid (HB.out.2 0 _ rfl).1
  have B1 := Lib.hid (HB.out.2 1 _ rfl).1
  have B2 := Lib.hid (HB.out.2 2 _ rfl).1
  have B3 := Lib.hid (HB.out.2 3 _ rfl).1
  have HSW := Lib.hid (show w.heap.size < W1.heap.size from HB.out.1)
  obtain ⟨a1, c1, rfl, _, _⟩ := h1.shape
  obtain ⟨a2, c2, rfl, _, _⟩ := h2.shape
  clear h1 h2 ok1 ok2 hG hW1 hpr hpf k0 k1 k2 k3
  go_enter Tryz.func6, Tryz.ntmps6
  go_wp2_with fail
  rw [← HW1.out]
  refine HR1.out.mono ?_; rintro e w1 ⟨x1, ps, rfl, p1', p2', p3', p4', hE1⟩
  have HP := Lib.hid p1'
  have HPA := Lib.hid p2'
  have HP3 := Lib.hid p3'
  have HP4 := Lib.hid p4'
  have HE1 := Lib.hid hE1
  obtain ⟨xa, xc, rfl, _, _⟩ := p1'.shape
  clear p1' p2' p3' p4' hE1
  go_wp2_with fail
  refine (HR2.out _ HE1.out).mono ?_; rintro e w2 ⟨x2, qs, rfl, q1, q2, q3, q4, hE2⟩
  have HQ := Lib.hid q1
  have HQA := Lib.hid q2
  have HQ3 := Lib.hid q3
  have HQ4 := Lib.hid q4
  have HE2 := Lib.hid hE2
  have HE02 := Lib.hid (HE1.out.trans hE2)
  obtain ⟨ya, yc, rfl, _, _⟩ := q1.shape
  clear q1 q2 q3 q4 hE2
  go_wp2_with fail
  refine (rowdb_prg (rows ps) (rows qs) _ _ w2 (rdR_of (HP.out.ext HE2.out) (fun p hp => (HPA.out p hp).ext HE2.out)) (rdR_of HQ.out HQA.out)).mono ?_; rintro e w3 ⟨vd, rfl, hd, hE3⟩
  have HD := Lib.hid hd
  have HE03 := Lib.hid (HE02.out.trans hE3)
  have HP' := Lib.hid (HP.out.ext (HE2.out.trans hE3))
  have HPA' := Lib.hid (show RdAll w3 ps from fun p hp => (HPA.out p hp).ext (HE2.out.trans hE3))
  obtain ⟨da, dc, rfl, _, _⟩ := hd.shape
  clear hd hE3
  have b0 := HE03.out.keeps B0.out
  have b1 := HE03.out.keeps B1.out
  have b2 := HE03.out.keeps B2.out
  have b3 := HE03.out.keeps B3.out
  go_wp2_with fail
  refine (HND.out [⟨5, 0, 1, 0, [], [], []⟩] _ _ (by simp) (rd_litG w3 ([⟨hd0, ⟨5, 0, 1, 0, [], [], []⟩⟩] : List NdP) #[.int .i64 5, .int .i64 0, .int .i64 1, .int .i64 0, sv [], .slice none 0 0, .slice none 0 0] 45 _ 1 rfl rfl (by simp) rfl)).mono ?_; rintro e y ⟨vn, ve, rfl, hn, he, hE'⟩
  have HY := Lib.hid (show Ext w3 y from ((Ext.refl w3).alloc #[.int .i64 5, .int .i64 0, .int .i64 1, .int .i64 0, sv [], .slice none 0 0, .slice none 0 0] 45).trans hE')
  have hn1 : OwnG tNd.e (w3.alloc (.cells #[.int .i64 5, .int .i64 0, .int .i64 1, .int .i64 0, sv [], .slice none 0 0, .slice none 0 0] 45)) y vn ((jq 5 pf pf).map (NdP.mk hd0)) := hn
  have hn2 := hn1.base ((Ext.refl w3).alloc #[.int .i64 5, .int .i64 0, .int .i64 1, .int .i64 0, sv [], .slice none 0 0, .slice none 0 0] 45)
  obtain ⟨gn, cn, rfl⟩ := own_shape2 (n := 3) hn2 rfl (by decide)
  have HNO := Lib.hid hn2
  have HGN := Lib.hid (show gn < y.heap.size from hn2.lt gn rfl)
  obtain ⟨ea, ec, rfl, _, _⟩ := he.shape
  obtain ⟨fl, hfl⟩ : ∃ n, n = fs.length := ⟨_, rfl⟩
  rw [← hfl]
  clear hn hn1 hn2 he hE' b0 b1 b2 b3 hfl
  obtain ⟨X, hX⟩ : ∃ X, X = y.alloc (.cells #[.slice (some ⟨gn, 0, none⟩) 3 cn, .slice ea fl ec] 26) := ⟨_, rfl⟩
  have HYX := Lib.hid (show Ext y X by rw [hX]; exact (Ext.refl _).alloc _ _)
  have HQB := Lib.hid (show Bxn y.heap.size [.slice (some ⟨gn, 0, none⟩) 3 cn, .slice ea fl ec] X by rw [hX]; exact Bxn.new _ _ _)
  have HX := Lib.hid hX
  have HXE := Lib.hid (HE03.out.trans (HY.out.trans HYX.out))
  have A0 := Lib.hid (HXE.out.keeps B0.out)
  have A1 := Lib.hid (HXE.out.keeps B1.out)
  have A2 := Lib.hid (HXE.out.keeps B2.out)
  have A3 := Lib.hid (HXE.out.keeps B3.out)
  have A4 := Lib.hid (HQB.out.2 0 _ rfl).1
  have HNX := Lib.hid (HNO.out.ext HYX.out)
  have hq1 : ¬ y.heap.size = w.heap.size := by have h1 := HSW.out; have h2 : W1.heap.size ≤ y.heap.size := (HE03.out.trans HY.out).2.2; omega
  have hq2 : ¬ gn = w.heap.size := by have h1 := HSW.out; have h2 : W1.heap.size ≤ w3.heap.size := HE03.out.2.2; have h3 := (HNO.out.blk gn rfl).1; omega
  have hq3 : ¬ gn = y.heap.size := by have := HGN.out; omega
  have hq4 : ¬ y.heap.size = gn := fun h => hq3 h.symm
  have HQ1 := Lib.hid hq1
  have HQ2 := Lib.hid hq2
  have HQ3' := Lib.hid hq3
  clear hX
  go_wp2_with fail
  rw [← HX.out]
  have hsX : y.heap.size < X.heap.size := HQB.out.1
  go_region_held3 (fun w' => w'.cell? ⟨w.heap.size, 0, none⟩ = some (.int .u16 p0) ∧ w'.cell? ⟨w.heap.size, 1, none⟩ = some (.int .u16 p1) ∧ w'.cell? ⟨w.heap.size, 2, none⟩ = some (.int .u16 p2) ∧ w'.cell? ⟨w.heap.size, 3, none⟩ = some (.int .u16 p3) ∧ w'.cell? ⟨y.heap.size, 0, none⟩ = some (.slice (some ⟨gn, 0, none⟩) 3 cn))
    (first | exact ⟨A0.out, A1.out, A2.out, A3.out, A4.out⟩ | exact ⟨e0, e1, e2, e3, e4⟩ | exact ⟨f0, f1, f2, f3, f4⟩ | exact ⟨g0, g1, g2, g3, g4⟩ | exact ⟨h0, h1, h2, h3, h4⟩ | exact ⟨(World.cell?_setCell_far _ _ _ _ hq1).trans h0, (World.cell?_setCell_far _ _ _ _ hq1).trans h1, (World.cell?_setCell_far _ _ _ _ hq1).trans h2, (World.cell?_setCell_far _ _ _ _ hq1).trans h3, (World.cell?_setCell_other _ _ _ _ (by simp)).trans h4⟩ | exact ⟨(World.cell?_setCell_far _ _ _ _ hq2).trans ((World.cell?_setCell_far _ _ _ _ hq1).trans h0), (World.cell?_setCell_far _ _ _ _ hq2).trans ((World.cell?_setCell_far _ _ _ _ hq1).trans h1), (World.cell?_setCell_far _ _ _ _ hq2).trans ((World.cell?_setCell_far _ _ _ _ hq1).trans h2), (World.cell?_setCell_far _ _ _ _ hq2).trans ((World.cell?_setCell_far _ _ _ _ hq1).trans h3), (World.cell?_setCell_far _ _ _ _ hq3).trans ((World.cell?_setCell_other _ _ _ _ (by simp)).trans h4)⟩ | go_keep)
    (first
      | (go_at_call 21; have mk2 := mk1; refine (HKO.out _).mono ?_; rintro e x5 ⟨kb, kd, rfl, hk2'⟩; have hk2 : OwnG tI.e x4 x5 (.slice kb 2 kd) ([1, 2] : List Int) := hk2'; have hE5 := HE4.out.trans hk2.2; have f0 := hE5.keeps A0.out; have f1 := hE5.keeps A1.out; have f2 := hE5.keeps A2.out; have f3 := hE5.keeps A3.out; have f4 := hE5.keeps A4.out; have HK1b := Lib.hid (HK1.out.ext hk2.2); have HK2 := Lib.hid hk2; have HE5 := Lib.hid hE5; clear hk2 hk2' hE5)
      | (go_at_call 21; refine (HKO.out _).mono ?_; rintro e x4 ⟨ka, kc, rfl, hk1'⟩; have mk1 : True := True.intro; have hk1 : OwnG tI.e X x4 (.slice ka 2 kc) ([1, 2] : List Int) := hk1'; have hE4 := hk1.2; have e0 := hE4.keeps A0.out; have e1 := hE4.keeps A1.out; have e2 := hE4.keeps A2.out; have e3 := hE4.keeps A3.out; have e4 := hE4.keeps A4.out; have HK1 := Lib.hid hk1; have HE4 := Lib.hid hE4; clear hk1 hk1' hE4)
      | (refine step_appGL tI rfl _ _ rfl X (.slice ka 2 kc) [1, 2] rfl HK1b.out _ [1, 2] rfl HK2.out.rd (by simp) ?_; intro v6 x6 hO6' hg6 hl6; have hO6 : OwnG tI.e X x6 v6 ([1, 2, 1, 2] : List Int) := hO6'; obtain ⟨g6, c6, rfl⟩ := own_shape2 (n := 4) hO6 rfl (by decide); have hE6 := hO6.2; have g0 := hE6.keeps A0.out; have g1 := hE6.keeps A1.out; have g2 := hE6.keeps A2.out; have g3 := hE6.keeps A3.out; have g4 := hE6.keeps A4.out; have HO6 := Lib.hid hO6; have HE6 := Lib.hid hE6; clear hO6 hO6' hg6 hl6 hE6)
      | (go_at_call 20; refine (HPR.out _ c6 _ HO6.out.rd).mono ?_; rintro e x7 ⟨v7, rfl, h7'⟩; have h7 : OwnG tX.e x6 x7 v7 es := h7'; obtain ⟨a7, c7, rfl, _, _⟩ := h7.rd.shape; have hE7 := HE6.out.trans h7.2; have h0 := hE7.keeps A0.out; have h1 := hE7.keeps A1.out; have h2 := hE7.keeps A2.out; have h3 := hE7.keeps A3.out; have h4 := hE7.keeps A4.out; have hq7 := HQB.out.ext hE7; have r1 := (hq7.2 1 _ rfl).1; have r1f := (hq7.2 1 _ rfl).2; have r1s := hq7.1; have hn7 := HNX.out.ext hE7; have z3 : x7.cell? ⟨gn, 17, none⟩ = some (.int .i64 pf) := (hn7.rd.news 17 (.int .i64 pf) rfl); have z3f := hn7.1.frozenAt 17; have z3s := World.block_lt_of_cell? _ _ z3; have HN7 := Lib.hid hn7; have HQ7 := Lib.hid hq7; have HE7 := Lib.hid hE7; have H7 := Lib.hid h7; clear hn7 hq7 hE7 h7 h7'))
  all_goals
    obtain ⟨X8, hX8⟩ : ∃ X8, X8 = (x7.setCell ⟨y.heap.size, 1, none⟩ (.slice a7 es.length c7)).setCell ⟨gn, 17, none⟩ (.int .i64 pr) := ⟨_, rfl⟩
    have hs6 : X.heap.size ≤ x6.heap.size := HE6.out.2.2
    have hb7 : ∀ q, (Value.slice a7 es.length c7).ownBlock = some q → X.heap.size ≤ q := fun q hq => Nat.le_trans hs6 (H7.out.blk q hq).1
    have hgn : gn < y.heap.size := HGN.out
    have hw3g : w3.heap.size ≤ gn := (HNO.out.blk gn rfl).1
    have HN8 := Lib.hid (show OwnG tNd.e w3 X8 (.slice (some ⟨gn, 0, none⟩) 3 cn) ((jq 5 pf pr).map (NdP.mk hd0)) by
      rw [hX8]
      have h1 := HN7.out.other (set_grw x7 y.heap.size 1 (.slice a7 es.length c7)) (fun q hq => by injection hq with hq; omega) (.inr fun e => HQ3'.out (Option.some.inj e))
      exact own_setJ h1 2 3 (by simp [jq]) (by decide) ⟨hd0, ⟨5, 0, 1, pr, [], [], []⟩⟩ (.int .i64 pr) rfl)
    have HB8 := Lib.hid (show Bxn y.heap.size [.slice (some ⟨gn, 0, none⟩) 3 cn, .slice a7 es.length c7] X8 by rw [hX8]; exact (HQ7.out.set 1 _).far HQ3'.out)
    have HV8 := Lib.hid (show RdG X8 (.slice a7 es.length c7) es by
      rw [hX8]
      refine (H7.out.rd.out (set_grw _ _ _ _) (fun q hq _ e => ?_)).out (set_grw _ _ _ _) (fun q hq _ e => ?_)
      · injection e with e; have := hb7 q hq; omega
      · injection e with e; have := hb7 q hq; omega)
    have HE8 := Lib.hid (show Ext w3 X8 by rw [hX8]; exact (((HY.out.trans HYX.out).trans HE7.out).setNew _ _ (by omega) _).setNew _ _ hw3g _)
    have hs7 : X.heap.size ≤ X8.heap.size := by rw [hX8]; have := HE7.out.2.2; simpa [World.setCell] using this
    have HS8 := Lib.hid hs7
    obtain ⟨X9, hX9⟩ : ∃ X9, X9 = X8.alloc (.cells #[.slice (some ⟨gn, 0, none⟩) 3 cn, .slice a7 es.length c7] 26) := ⟨_, rfl⟩
    have hE89 : Ext X8 X9 := by rw [hX9]; exact (Ext.refl _).alloc _ _
    have hs9 : X9.heap.size = X8.heap.size + 1 := by rw [hX9]; simp
    have HS9 := Lib.hid hs9
    have HB9 := Lib.hid (show Bxn X8.heap.size [.slice (some ⟨gn, 0, none⟩) 3 cn, .slice a7 es.length c7] X9 by rw [hX9]; exact Bxn.new _ _ _)
    have HC9 := Lib.hid (HB8.out.ext hE89)
    have HN9 := Lib.hid (HN8.out.ext hE89)
    have HV9 := Lib.hid (HV8.out.ext hE89)
    have HE9 := Lib.hid (HE8.out.trans hE89)
    have HX8 := Lib.hid hX8
    have HX9 := Lib.hid hX9
    have HSX := Lib.hid hsX
    have HW3G := Lib.hid hw3g
    have HB7 := Lib.hid hb7
    have c0 := (HB8.out.2 0 _ rfl).1
    have c1 := (HB8.out.2 1 _ rfl).1
    have c2 : (X8.alloc (.cells #[.slice (some ⟨gn, 0, none⟩) 3 cn, .slice a7 es.length c7] 26)).cell? ⟨y.heap.size, 0, none⟩ = some (.slice (some ⟨gn, 0, none⟩) 3 cn) := by rw [← hX9]; exact (HC9.out.2 0 _ rfl).1
    clear hX8 hX9 hE89 hs6 hb7 hs7 hs9 r1 r1f r1s z3 z3f z3s h0 h1 h2 h3 h4
    rw [← HX8.out]
    go_upto_region 6 with fail
    obtain ⟨vq, hvq⟩ : ∃ v, v = Value.slice (some ⟨gn, 0, none⟩) 3 cn := ⟨_, rfl⟩
    have HVQ := Lib.hid hvq
    rw [← hvq] at c0 c2 HX9 HC9 HN9 HB9 ⊢
    clear hvq
    rw [← HX9.out] at c2 ⊢
    go_wp2_with (at_builtin; refine appGL tNd rfl _ _ rfl X9 (.slice none 0 0) [] rfl (OwnG.nil _ _ _ (Ext.refl _)) _ ((jq 5 pf pr).map (NdP.mk hd0)) rfl HN9.out.rd (by simp [jq]) ?_; intro v10 x10 hO' hg10 hl10; have hO : OwnG tNd.e X9 x10 v10 ((jq 5 pf pr).map (NdP.mk hd0)) := hO'; obtain ⟨gm, cm, rfl⟩ := own_shape2 (n := 3) hO rfl (by decide); have hb := HB9.out.ext hO.2; have m0 := (hb.2 0 _ rfl).1; have m0f := (hb.2 0 _ rfl).2; have m1 := (hb.2 1 _ rfl).1; have m1s := hb.1; have z0 : x10.cell? ⟨gm, 14, none⟩ = some (.int .i64 5) := hO.rd.news 14 (.int .i64 5) rfl; have z0f := hO.1.frozenAt 14; have z0s := World.block_lt_of_cell? _ _ z0; have hbx := HC9.out.ext hO.2; have k0 := (hbx.2 0 _ rfl).1; have k1 := (hbx.2 1 _ rfl).1; have HGM := Lib.hid (show X9.heap.size ≤ gm from (hO.blk gm rfl).1); have n1 : ¬ gm = X8.heap.size := (by (have := HGM.out; have := HS9.out; omega)); have n2 : ¬ gm = y.heap.size := (by (have := HGM.out; have := HS9.out; have := HS8.out; omega)); have n3 : ¬ X8.heap.size = y.heap.size := (by (have := HS8.out; have := HSX.out; omega)); have HO := Lib.hid hO; have HBB := Lib.hid hb; have HBX := Lib.hid hbx; clear hO hO' hb hbx hg10 hl10)
    have hvq := HVQ.out
    subst hvq
    obtain ⟨Y, hY⟩ : ∃ Y, Y = (x10.setCell ⟨X8.heap.size, 0, none⟩ (.slice (some ⟨gm, 0, none⟩) 3 cm)).setCell ⟨gm, 14, none⟩ (.int .i64 4) := ⟨_, rfl⟩
    have g1 := HGM.out
    have g2 := HS9.out
    have g3 := HS8.out
    have g4 := HSX.out
    have g5 := HGN.out
    have g6 := HW3G.out
    have HNY := Lib.hid (show OwnG tNd.e w3 Y (.slice (some ⟨gn, 0, none⟩) 3 cn) ((jq 5 pf pr).map (NdP.mk hd0)) by
      rw [hY]
      refine ((HN9.out.ext HO.out.2).other (set_grw _ _ _ _) (fun q hq => by injection hq with hq; omega) (.inr fun e => ?_)).other (set_grw _ _ _ _) (fun q hq => by injection hq with hq; omega) (.inr fun e => ?_)
      · have e2 : gn = X8.heap.size := Option.some.inj e
        omega
      · have e2 : gn = gm := Option.some.inj e
        omega)
    have HMY := Lib.hid (show OwnG tNd.e w3 Y (.slice (some ⟨gm, 0, none⟩) 3 cm) ((jq 4 pf pr).map (NdP.mk hd0)) by
      rw [hY]
      have h1 := (HO.out.base HE9.out).other (set_grw x10 X8.heap.size 0 (.slice (some ⟨gm, 0, none⟩) 3 cm)) (fun q hq => by injection hq with hq; omega) (.inr fun e => n1 (Option.some.inj e))
      exact own_setJ h1 2 0 (by simp [jq]) (by decide) ⟨hd0, ⟨4, 0, 1, pr, [], [], []⟩⟩ (.int .i64 4) rfl)
    have HVY := Lib.hid (show RdG Y (.slice a7 es.length c7) es by
      rw [hY]
      refine ((HV9.out.ext HO.out.2).out (set_grw _ _ _ _) (fun q hq hl e => ?_)).out (set_grw _ _ _ _) (fun q hq hl e => ?_)
      · have e2 : q = X8.heap.size := Option.some.inj e
        have := HV8.out.lt q hq hl
        omega
      · have e2 : q = gm := Option.some.inj e
        have := HV8.out.lt q hq hl
        omega)
    have HBY := Lib.hid (show Bxn X8.heap.size [.slice (some ⟨gm, 0, none⟩) 3 cm, .slice a7 es.length c7] Y by rw [hY]; exact (HBB.out.set 0 _).far n1)
    have HEY := Lib.hid (show Ext w3 Y by rw [hY]; exact ((HE9.out.trans HO.out.2).setNew _ _ (by omega) _).setNew _ _ (by omega) _)
    have HYD := Lib.hid hY
    clear c2 hY g1 g2 g3 g4 g5 g6 m0 m0f m1 m1s z0 z0f z0s k0 k1 c0 c1
    rw [← HYD.out]
    have HXL := Lib.hid (show (rows ps).length ≤ 8 by rw [rows_len]; exact HP3.out)
    have HYL := Lib.hid (show (rows qs).length ≤ 8 by rw [rows_len]; exact HQ3.out)
    have HXX := Lib.hid (gd_rows HP4.out)
    have HYY := Lib.hid (gd_rows HQ4.out)
    have HJ5 := Lib.hid (show evQ clsF es (dbs (rows ps) (rows qs)) (jq 5 pf pr) = (sortR (jnL es pr true 2 (rows ps) (rows qs)), 0) from jq_ev (.inr rfl) (by have := HOK.out.2.1; omega) HOK.out.2.2 (by have := HXL.out; omega) (by have := HYL.out; omega))
    have HJ4 := Lib.hid (show evQ clsF es (dbs (rows ps) (rows qs)) (jq 4 pf pr) = (sortR (jnL es pr false 2 (rows ps) (rows qs)), 0) from jq_ev (.inl rfl) (by have := HOK.out.2.1; omega) HOK.out.2.2 (by have := HXL.out; omega) (by have := HYL.out; omega))
    have HBA := Lib.hid (fun k => show Bare (jq k pf pr) by intro n hn; simp only [jq, List.mem_cons, List.not_mem_nil, or_false] at hn; rcases hn with rfl | rfl | rfl <;> exact ⟨rfl, rfl⟩)
    have HEV := Lib.hid (fun (ns : List Nd) (z : List R) (vn ve : Value) (w' : World) (hE : Ext w3 w') (hn : RdN w' vn ns) (he : RdG w' ve es) (hb : Bare ns) (hz : evQ clsF es (dbs (rows ps) (rows qs)) ns = (sortR z, 0)) =>
      two_eval es ns z (rows ps) (rows qs) vn ve _ w' (HG.out.ext (HE03.out.trans hE)) hn he (HD.out.ext hE) HXX.out HYY.out HGX.out hb hz)
    refine (HEV.out (jq 5 pf pr) (jnL es pr true 2 (rows ps) (rows qs)) _ _ Y HEY.out (bare_rd (HBA.out 5) HNY.out.rd) HVY.out (HBA.out 5) HJ5.out).mono ?_; rintro e zA ⟨oA1, oA2, dA, rfl, r1, r2, r3, hE'⟩
    have HZA := Lib.hid (HEY.out.trans hE')
    have hby := HBY.out.ext hE'
    have k0 := (hby.2 0 _ rfl).1
    have k1 := (hby.2 1 _ rfl).1
    have HMA := Lib.hid (HMY.out.ext hE')
    have HVA := Lib.hid (HVY.out.ext hE')
    have HRA := Lib.hid r1
    have HAA := Lib.hid r2
    have HSA := Lib.hid r3
    clear hby hE' r1 r2 r3
    go_wp2_with fail
    refine (HEV.out (jq 4 pf pr) (jnL es pr false 2 (rows ps) (rows qs)) _ _ zA HZA.out (bare_rd (HBA.out 4) HMA.out.rd) HVA.out (HBA.out 4) HJ4.out).mono ?_; rintro e zB ⟨oB1, oB2, dB, rfl, r1, r2, r3, hE'⟩
    have HZB := Lib.hid (HZA.out.trans hE')
    have HRA2 := Lib.hid (HRA.out.ext hE')
    have HAA2 := Lib.hid (show RdAll zB dA from fun p hp => (HAA.out p hp).ext hE')
    have HRB := Lib.hid r1
    have HAB := Lib.hid r2
    have HSB := Lib.hid r3
    have HGA := Lib.hid (evq_good (Z := Z5) HGX.out (dbs_bd HXX.out HYY.out) HJ5.out)
    have HGB := Lib.hid (evq_good (Z := Z5) HGX.out (dbs_bd HXX.out HYY.out) HJ4.out)
    have hga := HGA.out
    have hgb := HGB.out
    rw [← HSA.out] at hga
    rw [← HSB.out] at hgb
    have HLA := Lib.hid (show dA.length ≤ 4096 by rw [← rows_len]; exact hga.1)
    have HLB := Lib.hid (show dB.length ≤ 4096 by rw [← rows_len]; exact hgb.1)
    have HSMA := Lib.hid (show Small dA from small_good (by simp [Z5]) hga.2)
    have HSMB := Lib.hid (show Small dB from small_good (by simp [Z5]) hgb.2)
    clear hE' r1 r2 r3 k0 k1 HRA HAA HEV hga hgb
    go_wp2_with fail
    refine (bagDiff_prg dA dB _ _ zB HRA2.out HRB.out HAA2.out HAB.out (by have := HLA.out; omega) (by have := HLB.out; omega) HSMA.out HSMB.out).mono ?_
    rintro e u1 ⟨o1, o2, os, ot, rfl, ⟨f1, f2, f3⟩, ⟨t1, t2, t3⟩, hE'⟩
    have hot : ot = [] := by
      have h0 : rows ot = [] := by
        rw [t3, HSB.out, HSA.out, sortR_self (sortR_srtd _), show cnt (sortR (jnL es pr true 2 (rows ps) (rows qs))) = cnt (jnL es pr true 2 (rows ps) (rows qs)) from funext (cnt_perm (sortR_perm _))]
        exact lst_gain es pr _ _
      exact List.eq_nil_of_length_eq_zero (by rw [← rows_len, h0]; rfl)
    have hos : rows os = lstL es pr (rows ps) (rows qs) := by
      rw [f3, HSB.out, HSA.out, sortR_self (sortR_srtd _), show cnt (sortR (jnL es pr false 2 (rows ps) (rows qs))) = cnt (jnL es pr false 2 (rows ps) (rows qs)) from funext (cnt_perm (sortR_perm _))]
      rfl
    have HLEN := Lib.hid (show dA.length = dB.length + os.length by
      have h := lst_len es pr (rows ps) (rows qs)
      rw [← hos, rows_len os] at h
      rw [← rows_len dA, ← rows_len dB, HSA.out, HSB.out, sortR_len, sortR_len]
      exact h)
    subst hot
    obtain ⟨sa, sc, rfl, _, _⟩ := f1.shape
    obtain ⟨_, _, rfl, _, _⟩ := t1.shape
    have H2P := Lib.hid (show ∀ r ∈ rows ps, r.v.length = 2 from fun r hr => by obtain ⟨p, hp, rfl⟩ := List.mem_map.1 hr; exact (HP4.out p hp).1)
    have H2Q := Lib.hid (show ∀ r ∈ rows qs, r.v.length = 2 from fun r hr => by obtain ⟨p, hp, rfl⟩ := List.mem_map.1 hr; exact (HQ4.out p hp).1)
    have HWS := Lib.hid (show ∀ p ∈ os, ∃ a b, p.r.v = [a, b, nul, nul] ∧ 0 < cnt (rows ps) [a, b] from fun p hp => by
      have hm : p.r ∈ rows os := List.mem_map.2 ⟨p, hp, rfl⟩
      rw [hos] at hm
      exact lst_row H2P.out hm)
    have HWA := Lib.hid (show ∀ p ∈ dA, p.r.v.length = 4 from fun p hp => by
      have hm : p.r ∈ rows dA := List.mem_map.2 ⟨p, hp, rfl⟩
      rw [HSA.out] at hm
      have hm2 := (sortR_perm _).mem_iff.1 hm
      unfold jnL at hm2
      obtain ⟨r, hr, hz⟩ := List.mem_flatMap.1 hm2
      exact (one_pre (H2P.out r hr) H2Q.out hz).1)
    have HPN := Lib.hid (show ∀ v, cnt (rows ps) v ≤ preN (rows dA) v from fun v => by
      rw [HSA.out, preN_perm (sortR_perm _)]
      exact lj_pre es pr (rows qs) H2Q.out v (rows ps) H2P.out)
    have HZU := Lib.hid (HZB.out.trans hE')
    have HRS := Lib.hid f1
    have HAS := Lib.hid f2
    have HRU := Lib.hid (HRA2.out.ext hE')
    have HAU := Lib.hid (show RdAll u1 dA from fun p hp => (HAA2.out p hp).ext hE')
    have HPU := Lib.hid (HP'.out.ext HZU.out)
    have HPAU := Lib.hid (show RdAll u1 ps from fun p hp => (HPA'.out p hp).ext HZU.out)
    have HEU := Lib.hid ((EX.out.trans HE03.out).trans HZU.out)
    have HGU := Lib.hid (HG.out.ext (HE03.out.trans HZU.out))
    clear f1 f2 f3 t1 t2 t3 hos hE' HRA2 HAA2 HRB HAB
    obtain ⟨sn, hsn⟩ : ∃ sn, sn = os.length := ⟨_, rfl⟩
    obtain ⟨an, han⟩ : ∃ an, an = dA.length := ⟨_, rfl⟩
    obtain ⟨bn, hbn⟩ : ∃ bn, bn = dB.length := ⟨_, rfl⟩
    obtain ⟨xn, hxn⟩ : ∃ xn, xn = ps.length := ⟨_, rfl⟩
    have HSN := Lib.hid hsn
    have HAN := Lib.hid han
    have HXN := Lib.hid hxn
    have hab : an = bn + sn := by rw [han, hbn, hsn]; exact HLEN.out
    have ha4 : an ≤ 4096 := by rw [han]; exact HLA.out
    have hx8 : xn ≤ 8 := by rw [hxn]; exact HP3.out
    rw [← hsn] at HRS ⊢
    rw [← han] at HRU ⊢
    rw [← hbn]
    rw [← hxn] at HPU ⊢
    clear hsn han hbn hxn
    have hs4 : sn ≤ 4096 := by omega
    have hb4 : bn ≤ 4096 := by omega
    go_wp2_with fail
    go_loopw [78] (fun i wr => ∃ k : Nat, k ≤ sn ∧ i = .int .i64 k ∧ Ext u1 wr) (fun i _ => sn - (intOf i).toNat)
    case atStart => exact ⟨0, Nat.zero_le _, rfl, Ext.refl _⟩
    case round =>
      obtain ⟨k, hk, rfl, hE⟩ := hrel
      by_cases hlt : k < sn
      · have hlt' : k < os.length := by rw [← HSN.out]; exact hlt
        obtain ⟨g, o, rfl, d0', d1'⟩ := rd_P HRS.out k hlt'
        have d0 := hE.keeps d0'
        have d1 := hE.keeps d1'
        clear d0' d1'
        obtain ⟨va, vb, hv, hm⟩ := HWS.out os[k] (List.getElem_mem _)
        have hrd := HAS.out os[k] (List.getElem_mem _)
        generalize os[k] = q at *
        obtain ⟨⟨ya, yn, yc, yb, ym, yd⟩, yr, yt⟩ := q
        simp only [Hd.x, Hd.y] at d0 d1 hv hrd
        subst hv
        have hx := hrd.1
        simp only [Hd.x] at hx
        obtain rfl : yn = 4 := hx.len.1
        have hy2 : (2 : Int) ≤ (yc : Int) := by have := hx.len.2.1; omega
        have hy3 : ¬ (yc : Int) < 2 := by omega
        obtain ⟨g2, o2, rfl, c0', c1', c2'⟩ := rdV3 hx 2 (by simp)
        obtain ⟨g3, o3, e3, b0', b1', b2'⟩ := rdV3 hx 3 (by simp)
        cases e3
        have c0 : wr.cell? ⟨g2, o2 + 6, none⟩ = some (.int .i64 0) := hE.keeps c0'
        have c1 : wr.cell? ⟨g2, o2 + 7, none⟩ = some (.int .i64 0) := hE.keeps c1'
        have c2 : wr.cell? ⟨g2, o2 + 8, none⟩ = some (sv []) := hE.keeps c2'
        have b0 : wr.cell? ⟨g2, o2 + 9, none⟩ = some (.int .i64 0) := hE.keeps b0'
        have b1 : wr.cell? ⟨g2, o2 + 10, none⟩ = some (.int .i64 0) := hE.keeps b1'
        have b2 : wr.cell? ⟨g2, o2 + 11, none⟩ = some (sv []) := hE.keeps b2'
        have sg := World.block_lt_of_cell? _ _ c0
        have hx2 := hx.take 2 (by simp)
        have HMX := Lib.hid (fun w' (hE : Ext u1 w') => mult_prg ps [va, vb] _ (.slice (some ⟨g2, o2, none⟩) 2 yc) w' (HPU.out.ext hE) (fun p hp => (HPAU.out p hp).ext hE) (hx2.ext hE))
        generalize cnt (rows ps) [va, vb] = cx at HMX hm
        have e0 : ((cx : Int) == 0) = false := by simp; omega
        have EX2 := Lib.hid (show Ext u1 (wr.alloc (.cells #[.slice (some ⟨g2, o2, none⟩) 4 yc, .slice yb ym yd] 51)) from hE.alloc _ _)
        have HL := Lib.hid hlt
        clear hrd hx hx2 hm hE c0' c1' c2' b0' b1' b2'
        go_wp2_with fail
        refine (HMX.out _ EX2.out).mono ?_; rintro e y1 ⟨rfl, hY1⟩
        have HY1 := Lib.hid (EX2.out.trans hY1)
        clear hY1
        go_wp2_with fail
        go_roundw
        case rel => exact ⟨k + 1, HL.out, by go_num, HY1.out⟩
        case measure => simp [intOf]; omega
      · have HE1 := Lib.hid hE
        clear hE
        obtain ⟨wa, rfl⟩ : ∃ x, x = wr := ⟨_, rfl⟩
        have HRW := Lib.hid (HRU.out.ext HE1.out)
        have HAW := Lib.hid (show RdAll wa dA from fun p hp => (HAU.out p hp).ext HE1.out)
        have HPW := Lib.hid (HPU.out.ext HE1.out)
        have HPAW := Lib.hid (show RdAll wa ps from fun p hp => (HPAU.out p hp).ext HE1.out)
        go_wp2_with fail
        go_loopw [113] (fun i wr => ∃ k : Nat, k ≤ xn ∧ i = .int .i64 k ∧ Ext wa wr) (fun i _ => xn - (intOf i).toNat)
        case atStart => exact ⟨0, Nat.zero_le _, rfl, Ext.refl _⟩
        case round =>
          obtain ⟨k, hk, rfl, hE⟩ := hrel
          obtain ⟨wb, rfl⟩ : ∃ x, x = wr := ⟨_, rfl⟩
          by_cases hlt : k < xn
          · have hlt' : k < ps.length := by rw [← HXN.out]; exact hlt
            obtain ⟨g, o, rfl, d0', d1'⟩ := rd_P HPW.out k hlt'
            have d0 := hE.keeps d0'
            have d1 := hE.keeps d1'
            clear d0' d1'
            have hrd := HPAW.out ps[k] (List.getElem_mem _)
            generalize ps[k] = q at *
            obtain ⟨⟨ya, yn, yc, yb, ym, yd⟩, yr⟩ := q
            simp only [Hd.x, Hd.y] at d0 d1 hrd
            have hv := hrd.1
            simp only [Hd.x] at hv
            obtain ⟨wc, hwc⟩ : ∃ wc, wc = wb.alloc (.cells #[.slice ya yn yc, .slice yb ym yd] 51) := ⟨_, rfl⟩
            have hEc : Ext wa wc := by rw [hwc]; exact hE.alloc _ _
            have K0 := Lib.hid (show wc.cell? ⟨wb.heap.size, 0, none⟩ = some (.slice ya yn yc) by rw [hwc]; exact al0 wb _ _ _)
            have HV := Lib.hid (hv.ext hEc)
            have HRC := Lib.hid (HRW.out.ext hEc)
            have HAC := Lib.hid (show RdAll wc dA from fun p hp => (HAW.out p hp).ext hEc)
            have HMX := Lib.hid (fun w' (hE : Ext wc w') => mult_prg ps yr.v _ (.slice ya yn yc) w' ((HPW.out.ext hEc).ext hE) (fun p hp => ((HPAW.out p hp).ext hEc).ext hE) (HV.out.ext hE))
            have hpn := HPN.out yr.v
            generalize cnt (rows ps) yr.v = cx at HMX hpn
            have HPX := Lib.hid hpn
            have HEC := Lib.hid hEc
            have HWC := Lib.hid hwc
            have HL := Lib.hid hlt
            clear hrd hv hE hEc hwc hpn
            go_wp2_with fail
            rw [← HWC.out]
            clear d0 d1
            go_loopw [22, 119] (fun s i wr => ∃ k : Nat, k ≤ an ∧ i = .int .i64 k ∧ s = .int .i64 ((preN ((rows dA).take k) yr.v : Nat) : Int) ∧ Ext wc wr) (fun _ i _ => an - (intOf i).toNat)
            case atStart => exact ⟨0, Nat.zero_le _, rfl, rfl, Ext.refl _⟩
            case round =>
              obtain ⟨k3, hk3, rfl, rfl, hE⟩ := hrel
              have hpl : preN ((rows dA).take k3) yr.v ≤ k3 := Nat.le_trans (List.countP_le_length) (by rw [List.length_take]; omega)
              by_cases hlt3 : k3 < an
              · have hlt' : k3 < dA.length := by rw [← HAN.out]; exact hlt3
                obtain ⟨g, o, rfl, d0', d1'⟩ := rd_P HRC.out k3 hlt'
                have d0 := hE.keeps d0'
                have d1 := hE.keeps d1'
                clear d0' d1'
                have h4 := HWA.out dA[k3] (List.getElem_mem _)
                have hrd := HAC.out dA[k3] (List.getElem_mem _)
                have hst : preN ((rows dA).take (k3 + 1)) yr.v = preN ((rows dA).take k3) yr.v + if dA[k3].r.v.take 2 = yr.v then 1 else 0 := by
                  rw [List.take_succ_eq_append_getElem (by rw [rows_len]; exact hlt'), preN_app, rows_at dA k3 hlt']
                  congr 1
                  simp [preN, h4]
                generalize dA[k3] = q at *
                obtain ⟨⟨za, zn, zc, zb, zm, zd⟩, zr⟩ := q
                simp only [Hd.x, Hd.y] at d0 d1 hrd h4 hst
                have hz := hrd.1
                simp only [Hd.x] at hz
                obtain rfl : zn = 4 := by rw [← h4]; exact hz.len.1
                have hz2 := hz.take 2 (by rw [h4]; decide)
                have hy2 : (2 : Int) ≤ (zc : Int) := by have := hz.len.2.1; omega
                have hy3 : ¬ (zc : Int) < 2 := by omega
                have HCR := Lib.hid (fun w' (hE : Ext wc w') => crowsG_ref (zr.v.take 2) yr.v (.slice za 2 zc) (.slice ya yn yc) w' (hz2.ext hE) (HV.out.ext hE))
                obtain ⟨wd, hwd⟩ : ∃ wd, wd = wr.alloc (.cells #[.slice za 4 zc, .slice zb zm zd] 51) := ⟨_, rfl⟩
                have hEd : Ext wc wd := by rw [hwd]; exact hE.alloc _ _
                have K1 := Lib.hid (show wd.cell? ⟨wr.heap.size, 0, none⟩ = some (.slice za 4 zc) by rw [hwd]; exact al0 wr _ _ _)
                have K2 := Lib.hid (hEd.keeps K0.out)
                have HED := Lib.hid hEd
                have HWD := Lib.hid hwd
                have HL3 := Lib.hid hlt3
                obtain ⟨za', hza⟩ : ∃ z : Addr, za = some z := by
                  obtain ⟨g4, o4, e4, _⟩ := rdV3 hz 0 (by rw [h4]; decide)
                  exact ⟨_, e4⟩
                subst hza
                obtain ⟨cv, hcv⟩ : ∃ c, c = cmpR (zr.v.take 2) yr.v := ⟨_, rfl⟩
                rw [← hcv] at HCR
                obtain ⟨b, hb⟩ : ∃ b, b = preN ((rows dA).take k3) yr.v := ⟨_, rfl⟩
                rw [← hb] at hst hpl ⊢
                have hcz : cv = 0 ↔ zr.v.take 2 = yr.v := by rw [hcv]; exact cr_ord.zero _ _
                have hbb : b ≤ 4096 := by omega
                clear hrd hz hz2 hE hEd hwd hcv hb h4
                by_cases hc : cv = 0
                · rw [if_pos (hcz.1 hc)] at hst
                  have HST := Lib.hid hst
                  subst hc
                  clear hst hcz
                  go_wp2_with fail
                  rw [← HWD.out]
                  clear d0 d1
                  go_region_held3 (fun w' => w'.cell? ⟨wr.heap.size, 0, none⟩ = some (.slice (some za') 4 zc) ∧ w'.cell? ⟨wb.heap.size, 0, none⟩ = some (.slice ya yn yc))
                    (first | exact ⟨K1.out, K2.out⟩ | exact ⟨f0, f1⟩ | go_keep)
                    (first | (go_at_call 22; refine (HCR.out _ ?_).mono ?_; (first | exact HED.out | exact HED.out.drew); rintro e w9 ⟨rfl, h9'⟩; have h9 : Ext wd w9 := h9'; have f0 := h9.keeps K1.out; have f1 := h9.keeps K2.out; have H9 := Lib.hid (HED.out.trans h9); clear h9 h9'))
                  all_goals
                    try clear f0 f1
                    go_wp2_with fail
                    go_roundw
                    case rel => exact ⟨k3 + 1, HL3.out, by go_num, by rw [HST.out, Int.natCast_add]; rfl, H9.out⟩
                    case measure => simp [intOf]; omega
                · rw [if_neg (fun h => hc (hcz.2 h))] at hst
                  have HST := Lib.hid hst
                  have hc1 : (cv == 0) = false := by simpa using hc
                  clear hst hcz hc
                  go_wp2_with fail
                  rw [← HWD.out]
                  clear d0 d1
                  go_region_held3 (fun w' => w'.cell? ⟨wr.heap.size, 0, none⟩ = some (.slice (some za') 4 zc) ∧ w'.cell? ⟨wb.heap.size, 0, none⟩ = some (.slice ya yn yc))
                    (first | exact ⟨K1.out, K2.out⟩ | exact ⟨f0, f1⟩ | go_keep)
                    (first | (go_at_call 22; refine (HCR.out _ ?_).mono ?_; (first | exact HED.out | exact HED.out.drew); rintro e w9 ⟨rfl, h9'⟩; have h9 : Ext wd w9 := h9'; have f0 := h9.keeps K1.out; have f1 := h9.keeps K2.out; have H9 := Lib.hid (HED.out.trans h9); clear h9 h9'))
                  all_goals
                    try clear f0 f1
                    go_wp2_with fail
                    go_roundw
                    case rel => exact ⟨k3 + 1, HL3.out, by go_num, by rw [HST.out, Int.natCast_add]; simp, H9.out⟩
                    case measure => simp [intOf]; omega
              · have hke : (rows dA).take k3 = rows dA := List.take_of_length_le (by rw [rows_len]; have := HAN.out; omega)
                rw [hke] at hpl ⊢
                have hpx := HPX.out
                generalize preN (rows dA) yr.v = b at *
                have K3 := hE.keeps K0.out
                have HE3 := Lib.hid hE
                have hbb : b ≤ 4096 := by omega
                have hcb : cx ≤ 4096 := by omega
                have e0 : ¬ (b : Int) < (cx : Int) := by omega
                clear hke hE hpl hpx
                go_wp2_with fail
                refine (HMX.out _ HE3.out).mono ?_; rintro e y2 ⟨rfl, hY2⟩
                have HY2 := Lib.hid ((HEC.out.trans HE3.out).trans hY2)
                clear hY2 K3
                go_wp2_with fail
                go_roundw
                case rel => exact ⟨k + 1, HL.out, by go_num, HY2.out⟩
                case measure => simp [intOf]; omega
          · have hEE := Lib.hid (HE1.out.trans hE)
            have t1 : (an : Int) = (bn : Int) + (sn : Int) := by omega
            clear hE
            go_wp2_with fail
            refine (awake_law _ (HGU.out.ext hEE.out)).mono ?_; rintro e w10 ⟨rfl, hE10⟩
            have HE10 := Lib.hid hE10
            clear hE10
            go_wp2_with fail
            go_ret
            exact ⟨rfl, (HEU.out.trans hEE.out).trans HE10.out⟩
theorem law_AlgebraLeftJoinI (l1 l2 : List Five) (p0 p1 p2 p3 : Int) (v1 v2 : Value) (w : World) (hG : PT w) (h1 : RdG w v1 l1) (h2 : RdG w v2 l2) (ok1 : ∀ x ∈ l1, x.ok) (ok2 : ∀ x ∈ l2, x.ok) (k0 : 0 ≤ p0 ∧ p0 ≤ 65535) (k1 : 0 ≤ p1 ∧ p1 ≤ 65535) (k2 : 0 ≤ p2 ∧ p2 ≤ 65535) (k3 : 0 ≤ p3 ∧ p3 ≤ 65535) :
    Calls Tryz.prog 6 #[v1, v2, .agg #[.int .u16 p0, .int .u16 p1, .int .u16 p2, .int .u16 p3]] w fun e w' => e = .returned (.bool true) ∧ Ext w w' := by
  obtain ⟨q0, rfl⟩ := Int.eq_ofNat_of_zero_le k0.1
  obtain ⟨q1, rfl⟩ := Int.eq_ofNat_of_zero_le k1.1
  obtain ⟨q2, rfl⟩ := Int.eq_ofNat_of_zero_le k2.1
  obtain ⟨q3, rfl⟩ := Int.eq_ofNat_of_zero_le k3.1
  exact law_AlgebraLeftJoin l1 l2 q0 q1 q2 q3 v1 v2 w hG h1 h2 ok1 ok2 (by omega) (by omega) (by omega) (by omega)
end Go.Proofs.YtbplapkcleipiaaGreatDoor
