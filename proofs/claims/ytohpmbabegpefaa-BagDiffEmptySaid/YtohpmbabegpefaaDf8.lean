/- The program's Diff. -/
import Derived.Test.YtohpmbabegpefaaAp8
namespace Go.Proofs.Ytohpmbabegpefaa
open Go.ChangeShapes Go.WideShapes Go.ChangeAt Go.RowKit

/-- rows in different blocks -/
def Sep (v u : Value) : Prop := ∀ g, v.ownBlock = some g → u.ownBlock ≠ some g
theorem Sep.symm {v u : Value} (h : Sep v u) : Sep u v := fun g hg e => h g e hg
theorem Sep.grow {w : World} {v v' u : Value} (h : Sep v u) (k : Loc w v v') (hu : ∀ g, u.ownBlock = some g → g < w.heap.size) : Sep v' u := fun g hg e => by
  rcases k with k | ⟨g', k1, k2⟩
  · exact h g (k.symm.trans hg) e
  · rw [hg] at k1
    injection k1 with k1
    have := hu g e
    omega
theorem Sep.ne {v u : Value} (h : Sep v u) : v.ownBlock = none ∨ v.ownBlock ≠ u.ownBlock := by
  cases hv : v.ownBlock with
  | none => exact .inl rfl
  | some g => exact .inr fun e => h g hv e.symm
/-- v[i:], as the walk leaves it -/
theorem rd_from {w : World} {g o n cap : Nat} {l : List P} (h : RdG w (.slice (some ⟨g, o, none⟩) n cap) l) (hi : 1 ≤ n) : RdG w (.slice (if cap = 1 then some ⟨g, o, none⟩ else some ⟨g, o + 2, none⟩) (n - 1) (cap - 1)) (l.drop 1) := by
  by_cases hc : cap = 1
  · rw [if_pos hc]
    have hl := h.len
    have hd : l.drop 1 = [] := List.drop_eq_nil_of_le (by omega)
    rw [hd]
    have hn : n = 1 := by omega
    subst hn hc
    exact ⟨_, 0, rfl, Nat.le_refl _, Nat.zero_le _, (fun _ => rfl), fun i h => by simp at h⟩
  · rw [if_neg hc]
    exact h.drop hi
/-- what Diff is about -/
structure DfI (W : World) (SA SB : List R) (vl vg va vb : Value) (wr : World) (L G : List R) (az bz : List P) : Prop where
  l : OwnR W wr vl L
  g : OwnR W wr vg G
  sep : Sep vl vg
  a : RdG W va az
  b : RdG W vb bz
  ia : RdAll W az
  ib : RdAll W bz
  sa : SrtV (rows az)
  sb : SrtV (rows bz)
  el : L ++ sur (cnt (rows bz)) (rows az) = sur (cnt SB) SA
  eg : G ++ sur (cnt (rows az)) (rows bz) = sur (cnt SA) SB
def Small (ps : List P) : Prop := ∀ p ∈ ps, p.r.v.length ≤ 1000000 ∧ p.r.t.length ≤ 1000000
theorem sur_le (f : List V → Nat) (l : List R) : (sur f l).length ≤ l.length := sur_len l f
theorem DfI.lt {W wr w' : World} {SA SB L G : List R} {vl vg va vb vl' va' : Value} {x y : P} {az bz : List P} (h : DfI W SA SB vl vg va vb wr L G (x :: az) (y :: bz)) (hc : cmpR x.r.v y.r.v = -1) (w3 : World) (hE : Ext wr w3)
    (hO : OwnR W w' vl' (L ++ [x.r])) (hg : Grw w3 w' vl.ownBlock) (hl : Loc w3 vl vl') (ha : RdG W va' az) : DfI W SA SB vl' vg va' vb w' (L ++ [x.r]) G az (y :: bz) := by
  have hl3 := h.l.ext hE
  have hg3 := h.g.ext hE
  have hsb : SrtV (y.r :: rows bz) := h.sb
  refine ⟨hO, hg3.grw hg hl3.blk h.sep.symm.ne, h.sep.grow hl hg3.lt, ha, h.b, fun p hp => h.ia p (by simp [hp]), h.ib, (List.pairwise_cons.1 h.sa).2, h.sb, ?_, ?_⟩
  · have := h.el
    rw [show rows (x :: az) = x.r :: rows az from rfl, show rows (y :: bz) = y.r :: rows bz from rfl, sur_lt hc hsb] at this
    rw [List.append_assoc]; exact this
  · have := h.eg
    rw [show rows (x :: az) = x.r :: rows az from rfl, show rows (y :: bz) = y.r :: rows bz from rfl, sur_lt' hc hsb] at this
    exact this
theorem DfI.swap {W wr : World} {SA SB L G : List R} {vl vg va vb : Value} {az bz : List P} (h : DfI W SA SB vl vg va vb wr L G az bz) : DfI W SB SA vg vl vb va wr G L bz az :=
  ⟨h.g, h.l, h.sep.symm, h.b, h.a, h.ib, h.ia, h.sb, h.sa, h.eg, h.el⟩
theorem DfI.same {W wr w' : World} {SA SB L G : List R} {vl vg va vb va' vb' : Value} {x y : P} {az bz : List P} (h : DfI W SA SB vl vg va vb wr L G (x :: az) (y :: bz)) (hc : x.r.v = y.r.v) (hE : Ext wr w') (ha : RdG W va' az) (hb : RdG W vb' bz) : DfI W SA SB vl vg va' vb' w' L G az bz := by
  refine ⟨h.l.ext hE, h.g.ext hE, h.sep, ha, hb, fun p hp => h.ia p (by simp [hp]), fun p hp => h.ib p (by simp [hp]), (List.pairwise_cons.1 h.sa).2, (List.pairwise_cons.1 h.sb).2, ?_, ?_⟩
  · have := h.el
    rw [show rows (x :: az) = x.r :: rows az from rfl, show rows (y :: bz) = y.r :: rows bz from rfl, sur_same hc] at this
    exact this
  · have := h.eg
    rw [show rows (x :: az) = x.r :: rows az from rfl, show rows (y :: bz) = y.r :: rows bz from rfl, sur_same hc.symm] at this
    exact this
/-- how long they may be -/
structure DfS (m : Nat) (L G : List R) (az bz : List P) : Prop where
  l : L.length + az.length ≤ m
  g : G.length + bz.length ≤ m
  sa : Small az
  sb : Small bz
def DfR (W : World) (SA SB : List R) (m : Nat) (vl vg va vb : Value) (wr : World) : Prop := ∃ L G az bz, DfI W SA SB vl vg va vb wr L G az bz ∧ DfS m L G az bz
theorem DfI.fin {W wr : World} {SA SB L G : List R} {vl vg va vb : Value} {az bz : List P} (h : DfI W SA SB vl vg va vb wr L G az bz) (he : az = [] ∨ bz = []) : L ++ rows az = sur (cnt SB) SA ∧ G ++ rows bz = sur (cnt SA) SB := by
  have h1 := h.el
  have h2 := h.eg
  have hz : ∀ l : List R, sur (cnt (rows [])) l = l := fun l => sur_zero l _ fun _ _ => rfl
  have hn : ∀ f, sur f (rows []) = rows [] := fun f => rfl
  rcases he with rfl | rfl
  · rw [hz] at h2; rw [hn] at h1; exact ⟨h1, h2⟩
  · rw [hz] at h1; rw [hn] at h2; exact ⟨h1, h2⟩
theorem crowsE (W0 : World) (a b : List V) (va vb : Value) (w : World) (ha : RdG W0 va a) (hb : RdG W0 vb b) (h : Ext W0 w) : Calls Try.prog 30 #[va, vb] w fun e w' => e = .returned (.int .i64 (cmpR a b)) ∧ (∀ b o, b < W0.heap.size → w'.cell? ⟨b, o, none⟩ = W0.cell? ⟨b, o, none⟩) ∧ Ext W0 w' :=
  heldE W0 ((crows_gw a b va vb w (ha.ext h) (hb.ext h)).mono fun _ _ ⟨e, g⟩ => ⟨e, g.ext⟩) h
set_option maxHeartbeats 8000000 in
set_option maxRecDepth 100000 in
theorem diff_prg (ps qs : List P) (va vb : Value) (w : World) (ha : RdG w va ps) (hb : RdG w vb qs) (ia : RdAll w ps) (ib : RdAll w qs) (la : ps.length ≤ 1000000) (lb : qs.length ≤ 1000000) (sa : Small ps) (sb : Small qs) :
    Calls Try.prog 16 #[va, vb] w (DP w (sur (cnt (rows qs)) (sortR (rows ps))) (sur (cnt (rows ps)) (sortR (rows qs)))) := by
  have HA := Lib.hid ha
  have HB := Lib.hid hb
  have IA := Lib.hid ia
  have IB := Lib.hid ib
  have LA := Lib.hid la
  have LB := Lib.hid lb
  have SMA := Lib.hid sa
  have SMB := Lib.hid sb
  clear ha hb ia ib la lb sa sb
  go_enter Try.func16, Try.ntmps16
  go_wp2_with fail
  refine (order_prg ps va w HA.out IA.out LA.out).mono ?_; rintro e w1 ⟨v1, za, rfl, hO, hp, hr⟩
  have HO := Lib.hid hO
  have HP := Lib.hid hp
  have HR := Lib.hid hr
  clear hO hp hr
  go_wp2_with fail
  refine (order_prg qs vb w1 (HB.out.ext HO.out.2) (IB.out.ext HO.out.2) LB.out).mono ?_; rintro e w2 ⟨v2, zb, rfl, hO2, hp2, hr2⟩
  have HO2 := Lib.hid hO2
  have HP2 := Lib.hid hp2
  have HR2 := Lib.hid hr2
  clear hO2 hp2 hr2
  have HW := Lib.hid (HO.out.2.trans HO2.out.2)
  have hn0 : Sep (.slice none 0 0) (.slice none 0 0) := fun g hg => by cases hg
  have hsa : SrtV (rows za) := by rw [HR.out]; exact (sortR_srtd _).vals
  have hsb : SrtV (rows zb) := by rw [HR2.out]; exact (sortR_srtd _).vals
  have hel : ([] : List R) ++ sur (cnt (rows zb)) (rows za) = sur (cnt (sortR (rows qs))) (sortR (rows ps)) := by rw [List.nil_append, HR.out, HR2.out]
  have heg : ([] : List R) ++ sur (cnt (rows za)) (rows zb) = sur (cnt (sortR (rows ps))) (sortR (rows qs)) := by rw [List.nil_append, HR.out, HR2.out]
  have H0 := Lib.hid (show DfI w2 (sortR (rows ps)) (sortR (rows qs)) (.slice none 0 0) (.slice none 0 0) v1 v2 w2 [] [] za zb from
    ⟨OwnR.nil (Ext.refl _), OwnR.nil (Ext.refl _), hn0, HO.out.rd.ext HO2.out.2, HO2.out.rd, fun p hp => (IA.out p (HP.out.mem_iff.1 hp)).ext HW.out, fun p hp => (IB.out p (HP2.out.mem_iff.1 hp)).ext HW.out, hsa, hsb, hel, heg⟩)
  clear hn0 hsa hsb hel heg
  have H1 := Lib.hid (show DfS 1000000 [] [] za zb from ⟨(by have := HP.out.length_eq; have := LA.out; simp; omega), (by have := HP2.out.length_eq; have := LB.out; simp; omega), fun p hp => SMA.out p (HP.out.mem_iff.1 hp), fun p hp => SMB.out p (HP2.out.mem_iff.1 hp)⟩)
  obtain ⟨SA, hSA⟩ : ∃ z, z = sortR (rows ps) := ⟨_, rfl⟩
  obtain ⟨SB, hSB⟩ : ∃ z, z = sortR (rows qs) := ⟨_, rfl⟩
  have hcA : sur (cnt SB) SA = sur (cnt (rows qs)) (sortR (rows ps)) := by rw [hSA, hSB]; exact sur_cong _ _ _ fun x _ => cnt_perm (sortR_perm _) _
  have hcB : sur (cnt SA) SB = sur (cnt (rows ps)) (sortR (rows qs)) := by rw [hSA, hSB]; exact sur_cong _ _ _ fun x _ => cnt_perm (sortR_perm _) _
  have HSA := Lib.hid hcA
  have HSB := Lib.hid hcB
  rw [← hSA, ← hSB] at H0
  clear hcA hcB hSA hSB
  go_wp2_with fail
  go_loopw [4, 5, 6, 7] (DfR w2 SA SB 1000000) (fun _ _ a b _ => lenOf a + lenOf b)
  case atStart => exact ⟨[], [], za, zb, H0.out, H1.out⟩
  case round =>
    obtain ⟨L, G, az, bz, hD, hZ⟩ := hrel
    cases az with
    | nil =>
      obtain ⟨aa, ca, rfl, ha1, ha2⟩ := hD.a.shape
      obtain ⟨ab, cb, rfl, hb1, hb2⟩ := hD.b.shape
      have HEND := Lib.hid (hD.fin (.inl rfl))
      rw [HSA.out, HSB.out] at HEND
      have HD := Lib.hid hD
      have HZ := Lib.hid hZ
      clear hD hZ
      simp only [List.length_nil] at *
      go_wp2_with fail
      refine (copies_prg w2 wr u4 L [] _ HD.out.l HD.out.a HD.out.ia (by have := HZ.out.l; omega) HZ.out.sa).mono ?_; rintro e w3 ⟨v1, rfl, hO3, hG3, hL3⟩
      have HG3 := Lib.hid (HD.out.g.grw hG3 HD.out.l.blk HD.out.sep.symm.ne)
      have HS3 := Lib.hid (HD.out.sep.grow hL3 HD.out.g.lt)
      have HO3 := Lib.hid hO3
      clear hO3 hG3 hL3
      go_wp2_with fail
      refine (copies_prg w2 w3 u5 G bz _ HG3.out HD.out.b HD.out.ib (by have := HZ.out.g; omega) HZ.out.sb).mono ?_; rintro e w4 ⟨v2, rfl, hO4, hG4, hL4⟩
      have HO5 := Lib.hid (HO3.out.grw hG4 HG3.out.blk HS3.out.ne)
      have HO4 := Lib.hid hO4
      clear hO4 hG4 hL4
      go_wp2_with fail
      go_ret2
      obtain ⟨os, p1, p2, p3⟩ := HO5.out.rd
      obtain ⟨ot, r1, r2, r3⟩ := HO4.out.rd
      exact ⟨_, _, os, ot, rfl, ⟨p1, p2, p3.trans HEND.out.1⟩, ⟨r1, r2, r3.trans HEND.out.2⟩, HW.out.trans HO4.out.old⟩
    | cons x az =>
      cases bz with
      | nil =>
        obtain ⟨aa, ca, rfl, ha1, ha2⟩ := hD.a.shape
        obtain ⟨ab, cb, rfl, hb1, hb2⟩ := hD.b.shape
        obtain ⟨n, hn⟩ : ∃ n, n = (x :: az).length := ⟨_, rfl⟩
        have hn1 : (0 : Int) < (n : Int) := by rw [hn, List.length_cons]; omega
        have hn2 : n ≠ 0 := by omega
        rw [← hn] at hD ha1 ⊢
        clear hn
        simp only [List.length_nil] at hD hb1 ⊢
        have HEND := Lib.hid (hD.fin (.inr rfl))
        rw [HSA.out, HSB.out] at HEND
        have HD := Lib.hid hD
        have HZ := Lib.hid hZ
        clear hD hZ
        go_wp2_with fail
        refine (copies_prg w2 wr u4 L (x :: az) _ HD.out.l HD.out.a HD.out.ia (by have := HZ.out.l; omega) HZ.out.sa).mono ?_; rintro e w3 ⟨v1, rfl, hO3, hG3, hL3⟩
        have HG3 := Lib.hid (HD.out.g.grw hG3 HD.out.l.blk HD.out.sep.symm.ne)
        have HS3 := Lib.hid (HD.out.sep.grow hL3 HD.out.g.lt)
        have HO3 := Lib.hid hO3
        clear hO3 hG3 hL3
        go_wp2_with fail
        refine (copies_prg w2 w3 u5 G [] _ HG3.out HD.out.b HD.out.ib (by have := HZ.out.g; omega) HZ.out.sb).mono ?_; rintro e w4 ⟨v2, rfl, hO4, hG4, hL4⟩
        have HO5 := Lib.hid (HO3.out.grw hG4 HG3.out.blk HS3.out.ne)
        have HO4 := Lib.hid hO4
        clear hO4 hG4 hL4
        go_wp2_with fail
        go_ret2
        obtain ⟨os, p1, p2, p3⟩ := HO5.out.rd
        obtain ⟨ot, r1, r2, r3⟩ := HO4.out.rd
        exact ⟨_, _, os, ot, rfl, ⟨p1, p2, p3.trans HEND.out.1⟩, ⟨r1, r2, r3.trans HEND.out.2⟩, HW.out.trans HO4.out.old⟩
      | cons y bz =>
        obtain ⟨aa, ca, rfl, ha1, ha2⟩ := hD.a.shape
        obtain ⟨ab, cb, rfl, hb1, hb2⟩ := hD.b.shape
        obtain ⟨n, hn⟩ : ∃ n, n = (x :: az).length := ⟨_, rfl⟩
        obtain ⟨m, hm⟩ : ∃ m, m = (y :: bz).length := ⟨_, rfl⟩
        have hn1 : 1 ≤ n := by rw [hn, List.length_cons]; omega
        have hm1 : 1 ≤ m := by rw [hm, List.length_cons]; omega
        rw [← hn] at hD ha1 ⊢
        rw [← hm] at hD hb1 ⊢
        clear hn hm
        obtain ⟨g, o, rfl, c0', _⟩ := rd_P hD.a 0 (by simp)
        obtain ⟨g2, o2, rfl, d0', _⟩ := rd_P hD.b 0 (by simp)
        simp only [Nat.zero_mul, Nat.add_zero, List.getElem_cons_zero] at c0' d0'
        have c0 := hD.l.old.keeps c0'
        have d0 := hD.l.old.keeps d0'
        have hix := hD.ia x (by simp)
        have hiy := hD.ib y (by simp)
        have i1 : (0 : Int) < (n : Int) := by omega
        have i2 : (1 : Int) ≤ (n : Int) := by omega
        have i3 : (n : Int) ≤ (ca : Int) := by omega
        have i4 : (1 : Int) ≤ (ca : Int) := by omega
        have j1 : (0 : Int) < (m : Int) := by omega
        have j2 : (1 : Int) ≤ (m : Int) := by omega
        have j3 : (m : Int) ≤ (cb : Int) := by omega
        have j4 : (1 : Int) ≤ (cb : Int) := by omega
        unfold maxLen at ha2 hb2
        clear c0' d0'
        have HTA := Lib.hid (hD.a.take 1 (by simp))
        have HTB := Lib.hid (hD.b.take 1 (by simp))
        have HFA := Lib.hid (rd_from hD.a hn1)
        have HFB := Lib.hid (rd_from hD.b hm1)
        have hcv := fun w' => crowsE wr x.r.v y.r.v _ _ w' (hix.1.ext hD.l.old) (hiy.1.ext hD.l.old)
        have HD := Lib.hid hD
        have HZ := Lib.hid hZ
        clear hD hZ hix hiy
        obtain ⟨⟨xa, xn, xc, xb, xm, xd⟩, xr⟩ := x
        obtain ⟨⟨ya, yn, yc, yb, ym, yd⟩, yr⟩ := y
        simp only [Hd.x] at c0 d0 hcv
        have K0 := Lib.hid c0
        have K1 := Lib.hid d0
        rcases cr_ord.vals xr.v yr.v with hc | hc | hc
        · rw [hc] at hcv
          have HV := Lib.hid hcv
          have HC := Lib.hid hc
          clear hcv hc
          go_wp2_with fail
          go_region_held3 (fun w' => w'.cell? ⟨g, o, none⟩ = some (.slice xa xn xc) ∧ w'.cell? ⟨g2, o2, none⟩ = some (.slice ya yn yc)) (first | exact ⟨K0.out, K1.out⟩ | exact ⟨f0, f1⟩ | go_keep) (first | (go_at_call 30; refine (HV.out _ ?_).mono ?_; (first | assumption | exact Ext.refl _ | exact (Ext.refl _).drew); rintro e w3 ⟨rfl, q0, qG⟩; have f0 := qG.keeps K0.out; have f1 := qG.keeps K1.out))
          all_goals
            go_wp2_with fail
            refine (copies_prg w2 w3 u4 L [(⟨⟨xa, xn, xc, xb, xm, xd⟩, xr⟩ : P)] _ (HD.out.l.ext qG) HTA.out (fun p hp => HD.out.ia p (by rw [List.mem_singleton.1 hp]; simp)) (by have := HZ.out.l; simp at this ⊢; omega) (fun p hp => HZ.out.sa p (by rw [List.mem_singleton.1 hp]; simp))).mono ?_; rintro e w5 ⟨v5, rfl, hO5, hG5, hL5⟩
            have HO5 := Lib.hid hO5
            clear hO5
            go_wp2_with fail
            go_roundw
            case rel => exact ⟨L ++ [xr], G, az, (⟨⟨ya, yn, yc, yb, ym, yd⟩, yr⟩ : P) :: bz, HD.out.lt HC.out w3 qG HO5.out hG5 hL5 (by first | exact HFA.out | (have := HFA.out; simpa using this)), ⟨(by have := HZ.out.l; simp at this ⊢; omega), HZ.out.g, fun p hp => HZ.out.sa p (by simp [hp]), HZ.out.sb⟩⟩
            case measure => simp [lenOf]; omega
        · rw [hc] at hcv
          have HV := Lib.hid hcv
          have HC := Lib.hid ((cr_ord.zero _ _).1 hc)
          clear hcv hc
          go_wp2_with fail
          go_region_held3 (fun w' => w'.cell? ⟨g, o, none⟩ = some (.slice xa xn xc) ∧ w'.cell? ⟨g2, o2, none⟩ = some (.slice ya yn yc)) (first | exact ⟨K0.out, K1.out⟩ | exact ⟨f0, f1⟩ | go_keep) (first | (go_at_call 30; refine (HV.out _ ?_).mono ?_; (first | assumption | exact Ext.refl _ | exact (Ext.refl _).drew); rintro e w3 ⟨rfl, q0, qG⟩; have f0 := qG.keeps K0.out; have f1 := qG.keeps K1.out))
          all_goals
            go_wp2_with fail
            go_quiet (fail)
            go_wp2_with fail
            go_roundw
            case rel => exact ⟨L, G, az, bz, HD.out.same HC.out (show Ext wr (w3.drewN nq) from qG) (by first | exact HFA.out | (have := HFA.out; simpa using this)) (by first | exact HFB.out | (have := HFB.out; simpa using this)), ⟨(by have := HZ.out.l; simp at this ⊢; omega), (by have := HZ.out.g; simp at this ⊢; omega), fun p hp => HZ.out.sa p (by simp [hp]), fun p hp => HZ.out.sb p (by simp [hp])⟩⟩
            case measure => simp [lenOf]; omega
        · rw [hc] at hcv
          have HV := Lib.hid hcv
          have HC := Lib.hid (show cmpR yr.v xr.v = -1 by have := cr_ord.swap xr.v yr.v; omega)
          clear hcv hc
          go_wp2_with fail
          go_region_held3 (fun w' => w'.cell? ⟨g, o, none⟩ = some (.slice xa xn xc) ∧ w'.cell? ⟨g2, o2, none⟩ = some (.slice ya yn yc)) (first | exact ⟨K0.out, K1.out⟩ | exact ⟨f0, f1⟩ | go_keep) (first | (go_at_call 30; refine (HV.out _ ?_).mono ?_; (first | assumption | exact Ext.refl _ | exact (Ext.refl _).drew); rintro e w3 ⟨rfl, q0, qG⟩; have f0 := qG.keeps K0.out; have f1 := qG.keeps K1.out))
          all_goals
            go_wp2_with fail
            refine (copies_prg w2 w3 u5 G [(⟨⟨ya, yn, yc, yb, ym, yd⟩, yr⟩ : P)] _ (HD.out.g.ext qG) HTB.out (fun p hp => HD.out.ib p (by rw [List.mem_singleton.1 hp]; simp)) (by have := HZ.out.g; simp at this ⊢; omega) (fun p hp => HZ.out.sb p (by rw [List.mem_singleton.1 hp]; simp))).mono ?_; rintro e w5 ⟨v5, rfl, hO5, hG5, hL5⟩
            have HO5 := Lib.hid hO5
            clear hO5
            go_wp2_with fail
            go_roundw
            case rel => exact ⟨L, G ++ [yr], (⟨⟨xa, xn, xc, xb, xm, xd⟩, xr⟩ : P) :: az, bz, (HD.out.swap.lt HC.out w3 qG HO5.out hG5 hL5 (by first | exact HFB.out | (have := HFB.out; simpa using this))).swap, ⟨HZ.out.l, (by have := HZ.out.g; simp at this ⊢; omega), HZ.out.sa, fun p hp => HZ.out.sb p (by simp [hp])⟩⟩
            case measure => simp [lenOf]; omega
end Go.Proofs.Ytohpmbabegpefaa
