/- The reference's Sort. -/
import Derived.Test.YtnckdopphimgoaaGreatZz08
import Derived.Test.YtnckdopphimgoaaGreatZz34
namespace Go.Proofs.YtnckdopphimgoaaGreat
open Go.ChangeShapes Go.WideShapes Go.ChangeAt Go.RowKit

/-- the first comes first unless the second is less -/
def leP (x y : P) : Bool := !ltB y.r x.r
def mrg (a b : List P) : List P := a.merge b leP
theorem leP_iff (x y : P) : leP x y = true ↔ cmpW x.r y.r ≤ 0 := by
  unfold leP ltB
  have h1 := cw_ord.vals x.r y.r
  have h2 := cw_ord.swap x.r y.r
  simp
  omega
theorem mrg_perm (a b : List P) : (mrg a b).Perm (a ++ b) := List.merge_perm_append leP
theorem mrg_srtd (a b : List P) (ha : Srtd (rows a)) (hb : Srtd (rows b)) : Srtd (rows (mrg a b)) := by
  have h := List.pairwise_merge (le := leP) (fun x y z h1 h2 => by rw [leP_iff] at *; exact cw_ord.le_trans h1 h2) (fun x y => by
    rw [Bool.or_eq_true, leP_iff, leP_iff]
    have := cw_ord.swap x.r y.r
    omega) a b (by
      unfold Srtd rows at ha
      rw [List.pairwise_map] at ha
      exact ha.imp fun h => (leP_iff _ _).2 h) (by
      unfold Srtd rows at hb
      rw [List.pairwise_map] at hb
      exact hb.imp fun h => (leP_iff _ _).2 h)
  unfold Srtd rows mrg
  rw [List.pairwise_map]
  exact h.imp fun h => (leP_iff _ _).1 h
theorem drop_cons {α : Type} (l : List α) (i : Nat) (h : i < l.length) : l.drop i = l[i] :: l.drop (i + 1) := (List.drop_eq_getElem_cons h)
theorem mrg_a (a b : List P) (i k : Nat) (hi : i < a.length) (hk : k < b.length) (h : ltB b[k].r a[i].r = false) : mrg (a.drop i) (b.drop k) = a[i] :: mrg (a.drop (i + 1)) (b.drop k) := by
  unfold mrg
  rw [drop_cons a i hi, drop_cons b k hk, List.cons_merge_cons, if_pos (by unfold leP; rw [h]; rfl)]
theorem mrg_b (a b : List P) (i k : Nat) (hi : i < a.length) (hk : k < b.length) (h : ltB b[k].r a[i].r = true) : mrg (a.drop i) (b.drop k) = b[k] :: mrg (a.drop i) (b.drop (k + 1)) := by
  unfold mrg
  rw [drop_cons a i hi, drop_cons b k hk, List.cons_merge_cons, if_neg (by unfold leP; rw [h]; decide)]
theorem mrg_a0 (a b : List P) (i k : Nat) (hi : i < a.length) (hk : b.length ≤ k) : mrg (a.drop i) (b.drop k) = a[i] :: mrg (a.drop (i + 1)) (b.drop k) := by
  unfold mrg
  rw [List.drop_eq_nil_of_le hk, List.merge_right, List.merge_right, drop_cons a i hi]
theorem mrg_b0 (a b : List P) (i k : Nat) (hi : a.length ≤ i) (hk : k < b.length) : mrg (a.drop i) (b.drop k) = b[k] :: mrg (a.drop i) (b.drop (k + 1)) := by
  unfold mrg
  rw [List.drop_eq_nil_of_le hi, List.nil_merge, List.nil_merge, drop_cons b k hk]
theorem mrg_end (a b : List P) (i k : Nat) (hi : a.length ≤ i) (hk : b.length ≤ k) : mrg (a.drop i) (b.drop k) = [] := by
  unfold mrg
  rw [List.drop_eq_nil_of_le hi, List.drop_eq_nil_of_le hk, List.nil_merge]
/-- Less over an elder world -/
theorem lessE (W0 : World) (x y : P) (w : World) (hx : RdRow W0 x) (hy : RdRow W0 y) (h : Ext W0 w) : Calls Tryz.prog 40 #[.agg #[x.h.x, x.h.y], .agg #[y.h.x, y.h.y]] w fun e w' => e = .returned (.bool (ltB x.r y.r)) ∧ (∀ b o, b < W0.heap.size → w'.cell? ⟨b, o, none⟩ = W0.cell? ⟨b, o, none⟩) ∧ Ext W0 w' :=
  heldE W0 (less_ref x.r y.r _ _ _ _ w (hx.1.ext h) (hx.2.ext h) (hy.1.ext h) (hy.2.ext h)) h
/-- what the reference's Sort returns -/
def RsP (w : World) (ps : List P) (e : Ending) (w' : World) : Prop := ∃ v' qs, e = .returned v' ∧ OwnG tP.e w w' v' qs ∧ qs.Perm ps ∧ rows qs = sortR (rows ps)
def RsR (W : World) (a b : List P) (vo i k : Value) (wr : World) : Prop := ∃ (ii kk : Nat) (os : List P), ii ≤ a.length ∧ kk ≤ b.length ∧ i = .int .i64 ii ∧ k = .int .i64 kk ∧ OwnG tP.e W wr vo os ∧ Hid (os ++ mrg (a.drop ii) (b.drop kk) = mrg a b) ∧ os.length = ii + kk
set_option maxHeartbeats 8000000 in
set_option maxRecDepth 100000 in
theorem sort_small (ps : List P) (v : Value) (w : World) (h : RdG w v ps) (hl : ps.length < 2) : Calls Tryz.prog 27 #[v] w (RsP w ps) := by
  obtain ⟨ad, cap, rfl, h1, h2⟩ := h.shape
  have H := Lib.hid h
  have HS := Lib.hid (show rows ps = sortR (rows ps) from (sortR_self (by
    match ps, hl with
    | [], _ => exact List.Pairwise.nil
    | [x], _ => exact List.pairwise_singleton _ _)).symm)
  clear h
  unfold maxLen at h2
  obtain ⟨n, hn⟩ : ∃ n, n = ps.length := ⟨_, rfl⟩
  have HN := Lib.hid hn
  rw [← hn] at H h1 hl ⊢
  clear hn
  go_enter Tryz.func27, Tryz.ntmps27
  go_wp2_with (at_builtin; refine appG tP rfl _ _ rfl w _ [] rfl (OwnG.nil _ _ _ (Ext.refl _)) _ ps rfl (by rw [HN.out] at H; first | exact H.out | (rw [HN.out]; exact H.out)) (by have := HN.out; simp; omega) ?_; intro v' w' hO' hg')
  go_ret
  exact ⟨_, ps, rfl, by simpa using hO', List.Perm.refl _, HS.out⟩
set_option maxHeartbeats 8000000 in
set_option maxRecDepth 100000 in
theorem sort_ref (n : Nat) : ∀ (ps : List P) (v : Value) (w : World), RdG w v ps → RdAll w ps → ps.length ≤ n → ps.length ≤ 1000000 → Calls Tryz.prog 27 #[v] w (RsP w ps) := by
  induction n with
  | zero => intro ps v w h _ hn _; exact sort_small ps v w h (by omega)
  | succ n ih =>
    intro ps v w h hI hn hl
    by_cases hs : ps.length < 2
    · exact sort_small ps v w h hs
    obtain ⟨ad, cap, rfl, h1, h2⟩ := h.shape
    obtain ⟨g0, o0, rfl, _⟩ := rd_P h 0 (by omega)
    have H := Lib.hid h
    have HI := Lib.hid hI
    have IH := Lib.hid ih
    clear h hI ih
    unfold maxLen at h2
    obtain ⟨m, hm⟩ : ∃ m, m = ps.length := ⟨_, rfl⟩
    have HM := Lib.hid hm
    rw [← hm] at H h1 hn hl hs ⊢
    clear hm
    obtain ⟨q, hq⟩ : ∃ q, q = m / 2 := ⟨_, rfl⟩
    have hq1 : q < m := by omega
    have hq2 : 0 < q := by omega
    have hqd : (m : Int) / 2 = (q : Int) := by omega
    have hqt : Int.tdiv (m : Int) 2 = (q : Int) := by rw [Int.tdiv_eq_ediv_of_nonneg (by omega)]; exact hqd
    have hb0 : (0 : Int) ≤ (q : Int) := Int.natCast_nonneg _
    have hb1 : (q : Int) ≤ (cap : Int) := by omega
    have hb2 : (q : Int) ≤ (m : Int) := by omega
    have hb3 : (m : Int) ≤ (cap : Int) := by omega
    have hwr : IntKind.i64.wrap (q : Int) = (q : Int) := by simp only [IntKind.wrap, IntKind.bits, IntKind.signed]; simp; omega
    have HQ := Lib.hid hq
    clear hq
    have HC1 := Lib.hid (fun w2 (hg : Ext w w2) => IH.out (ps.take q) (.slice (some ⟨g0, o0, none⟩) q cap) w2 ((H.out.take q (by have := HM.out; omega)).ext hg) (fun p hp => (HI.out p (List.mem_of_mem_take hp)).ext hg) (by have := HM.out; rw [List.length_take]; omega) (by have := HM.out; rw [List.length_take]; omega))
    have HC2 := Lib.hid (fun w2 (hg : Ext w w2) => IH.out (ps.drop q) (.slice (some ⟨g0, o0 + q * 2, none⟩) (m - q) (cap - q)) w2 ((H.out.drop (show q ≤ m by omega)).ext hg) (fun p hp => (HI.out p (List.mem_of_mem_drop hp)).ext hg) (by have := HM.out; rw [List.length_drop]; omega) (by have := HM.out; rw [List.length_drop]; omega))
    have FIRST : True := trivial
    go_enter Tryz.func27, Tryz.ntmps27
    go_wp2_with fail
    go_region_held3 (fun _ => True) (trivial) (first | (clear FIRST; go_at_call 27; refine (HC1.out _ ?_).mono ?_; (first | exact Ext.refl _ | exact (Ext.refl _).drew); rintro e w1 ⟨va, qa, rfl, hOa, hpa, hra⟩; have e1 : Ext w w1 := ⟨hOa.2.1, hOa.2.2.1, hOa.2.2.2⟩; have HOa := Lib.hid hOa; have HPa := Lib.hid hpa; have HRa := Lib.hid hra; clear hOa hpa hra) | (go_at_call 27; refine (HC2.out _ ?_).mono ?_; (first | exact e1 | exact e1.drew); rintro e w2 ⟨vb, qb, rfl, hOb, hpb, hrb⟩; have e2 : Ext w1 w2 := ⟨hOb.2.1, hOb.2.2.1, hOb.2.2.2⟩; have HOb := Lib.hid hOb; have HPb := Lib.hid hpb; have HRb := Lib.hid hrb; clear hOb hpb hrb))
    have hA := HOa.out.rd.ext e2
    have hB := HOb.out.rd
    have HIa := Lib.hid (show RdAll w2 qa from fun p hp => (HI.out p (List.mem_of_mem_take (HPa.out.mem_iff.1 hp))).ext (e1.trans e2))
    have HIb := Lib.hid (show RdAll w2 qb from fun p hp => (HI.out p (List.mem_of_mem_drop (HPb.out.mem_iff.1 hp))).ext (e1.trans e2))
    obtain ⟨aa, ca, rfl, ha1, ha2⟩ := hA.shape
    obtain ⟨ab, cb, rfl, hb1', hb2'⟩ := hB.shape
    have HA := Lib.hid hA
    have HB := Lib.hid hB
    have hna : qa.length + qb.length = ps.length := by
      have h0 := HM.out
      have h1 := HPa.out.length_eq
      have h2 := HPb.out.length_eq
      rw [List.length_take] at h1
      rw [List.length_drop] at h2
      omega
    have HE := Lib.hid (e1.trans e2)
    have HPS := Lib.hid ((mrg_perm qa qb).trans ((HPa.out.append HPb.out).trans (List.Perm.of_eq (List.take_append_drop q ps))))
    have HSR := Lib.hid (sortR_of (HPS.out.map P.r) (mrg_srtd qa qb (by rw [HRa.out]; exact sortR_srtd _) (by rw [HRb.out]; exact sortR_srtd _)))
    unfold maxLen at ha2 hb2'
    clear hA hB e1 e2
    obtain ⟨na, hna'⟩ : ∃ z, z = qa.length := ⟨_, rfl⟩
    obtain ⟨nb, hnb'⟩ : ∃ z, z = qb.length := ⟨_, rfl⟩
    have HNA := Lib.hid hna'
    have HNB := Lib.hid hnb'
    rw [← hna'] at HA ha1 hna ⊢
    rw [← hnb'] at HB hb1' hna ⊢
    clear hna' hnb' hqd hqt hb0 hb1 hb2 hb3 hwr
    obtain ⟨wb, hwb⟩ : ∃ z, z = w2 := ⟨_, rfl⟩
    rw [← hwb] at HA HB HIa HIb HE ⊢
    clear hwb
    go_wp2_with fail
    go_loopw [5, 6, 7] (RsR wb qa qb) (fun _ i k _ => na + nb - ((intOf i).toNat + (intOf k).toNat))
    case atStart => exact ⟨0, 0, [], Nat.zero_le _, Nat.zero_le _, rfl, rfl, OwnG.nil _ _ _ (Ext.refl _), Lib.hid (by simp), rfl⟩
    case round =>
      obtain ⟨ii, kk, os, hii, hkk, rfl, rfl, hO, HM2, hos⟩ := hrel
      have hia : ii ≤ na := by rw [HNA.out]; exact hii
      have hkb : kk ≤ nb := by rw [HNB.out]; exact hkk
      have hi0 : (0 : Int) ≤ (ii : Int) := Int.natCast_nonneg _
      have hk0 : (0 : Int) ≤ (kk : Int) := Int.natCast_nonneg _
      by_cases hlt : ii < na
      · have hlt' : ii < qa.length := by rw [← HNA.out]; exact hlt
        have hi1 : (ii : Int) < (na : Int) := by omega
        obtain ⟨g, o, rfl, c0', c1'⟩ := rd_P HA.out ii hlt'
        have c0 := hO.2.keeps c0'
        have c1 := hO.2.keeps c1'
        have hix := (HIa.out qa[ii] (List.getElem_mem _)).ext hO.2
        clear c0' c1'
        by_cases hlt2 : kk < nb
        · have hlt2' : kk < qb.length := by rw [← HNB.out]; exact hlt2
          have hk1 : (kk : Int) < (nb : Int) := by omega
          have hke : ((kk : Int) == (nb : Int)) = false := by simp; omega
          have hke2 : ¬ ((kk : Int) = (nb : Int)) := by omega
          obtain ⟨g2, o2, rfl, d0', d1'⟩ := rd_P HB.out kk hlt2'
          have d0 := hO.2.keeps d0'
          have d1 := hO.2.keeps d1'
          have hiy := (HIb.out qb[kk] (List.getElem_mem _)).ext hO.2
          have HMA := Lib.hid (mrg_a qa qb ii kk hlt' hlt2')
          have HMB := Lib.hid (mrg_b qa qb ii kk hlt' hlt2')
          clear d0' d1'
          generalize qa[ii] = x at *
          generalize qb[kk] = y at *
          have hcv := lessE wr y x
          obtain ⟨⟨xa, xn, xc, xb, xm, xd⟩, xr⟩ := x
          obtain ⟨⟨ya, yn, yc, yb, ym, yd⟩, yr⟩ := y
          simp only [Hd.x, Hd.y] at c0 c1 d0 d1 hcv
          have K0 := Lib.hid d0
          have K1 := Lib.hid d1
          have K2 := Lib.hid c0
          have K3 := Lib.hid c1
          have HIX := Lib.hid hix
          have HIY := Lib.hid hiy
          clear hix hiy
          cases hb : ltB yr xr with
          | false =>
            rw [hb] at hcv
            have HV := Lib.hid hcv
            have HX := Lib.hid (HMA.out hb)
            clear hcv hb HMA HMB
            go_wp2_with fail
            go_region_held3 (fun w' => w'.cell? ⟨g2, o2 + kk * 2, none⟩ = some (.slice ya yn yc) ∧ w'.cell? ⟨g2, o2 + kk * 2 + 1, none⟩ = some (.slice yb ym yd) ∧ w'.cell? ⟨g, o + ii * 2, none⟩ = some (.slice xa xn xc) ∧ w'.cell? ⟨g, o + ii * 2 + 1, none⟩ = some (.slice xb xm xd)) (first | exact ⟨K0.out, K1.out, K2.out, K3.out⟩ | exact ⟨f0, f1, f2, f3⟩ | go_keep) (first | (go_at_call 40; refine (HV.out _ HIY.out HIX.out ?_).mono ?_; (first | assumption | exact Ext.refl _ | exact (Ext.refl _).drew); rintro e w3 ⟨rfl, q0, qG⟩; have f0 := qG.keeps K0.out; have f1 := qG.keeps K1.out; have f2 := qG.keeps K2.out; have f3 := qG.keeps K3.out))
            all_goals
              go_wp2_with (at_builtin; refine appG tP rfl _ _ rfl wb _ os rfl ?a1 _ [(⟨⟨xa, xn, xc, xb, xm, xd⟩, xr⟩ : P)] rfl ?a2 ?a3 ?_; (case a1 => exact hO.ext (Ext.alloc qG _ _)); (case a2 => exact rd_litG _ [(⟨⟨xa, xn, xc, xb, xm, xd⟩, xr⟩ : P)] #[.slice xa xn xc, .slice xb xm xd] 36 _ 1 rfl rfl (by simp) rfl); (case a3 => simp; omega); intro v5 w5 hO5 hg5)
              go_roundw
              case rel => exact ⟨ii + 1, kk, os ++ [(⟨⟨xa, xn, xc, xb, xm, xd⟩, xr⟩ : P)], hlt', hkk, by go_num, rfl, hO5, Lib.hid (by rw [List.append_assoc, List.singleton_append, ← HX.out]; exact HM2.out), by simp; omega⟩
              case measure => simp [intOf]; omega
          | true =>
            rw [hb] at hcv
            have HV := Lib.hid hcv
            have HX := Lib.hid (HMB.out hb)
            clear hcv hb HMA HMB
            go_wp2_with fail
            go_region_held3 (fun w' => w'.cell? ⟨g2, o2 + kk * 2, none⟩ = some (.slice ya yn yc) ∧ w'.cell? ⟨g2, o2 + kk * 2 + 1, none⟩ = some (.slice yb ym yd) ∧ w'.cell? ⟨g, o + ii * 2, none⟩ = some (.slice xa xn xc) ∧ w'.cell? ⟨g, o + ii * 2 + 1, none⟩ = some (.slice xb xm xd)) (first | exact ⟨K0.out, K1.out, K2.out, K3.out⟩ | exact ⟨f0, f1, f2, f3⟩ | go_keep) (first | (go_at_call 40; refine (HV.out _ HIY.out HIX.out ?_).mono ?_; (first | assumption | exact Ext.refl _ | exact (Ext.refl _).drew); rintro e w3 ⟨rfl, q0, qG⟩; have f0 := qG.keeps K0.out; have f1 := qG.keeps K1.out; have f2 := qG.keeps K2.out; have f3 := qG.keeps K3.out))
            all_goals
              go_wp2_with (at_builtin; refine appG tP rfl _ _ rfl wb _ os rfl ?a1 _ [(⟨⟨ya, yn, yc, yb, ym, yd⟩, yr⟩ : P)] rfl ?a2 ?a3 ?_; (case a1 => exact hO.ext (Ext.alloc qG _ _)); (case a2 => exact rd_litG _ [(⟨⟨ya, yn, yc, yb, ym, yd⟩, yr⟩ : P)] #[.slice ya yn yc, .slice yb ym yd] 36 _ 1 rfl rfl (by simp) rfl); (case a3 => simp; omega); intro v5 w5 hO5 hg5)
              go_roundw
              case rel => exact ⟨ii, kk + 1, os ++ [(⟨⟨ya, yn, yc, yb, ym, yd⟩, yr⟩ : P)], hii, hlt2', rfl, by go_num, hO5, Lib.hid (by rw [List.append_assoc, List.singleton_append, ← HX.out]; exact HM2.out), by simp; omega⟩
              case measure => simp [intOf]; omega
        · have hke : ((kk : Int) == (nb : Int)) = true := by simp; omega
          have hke2 : ((kk : Int) = (nb : Int)) := by omega
          have HX := Lib.hid (mrg_a0 qa qb ii kk hlt' (by rw [← HNB.out]; omega))
          generalize qa[ii] = x at *
          obtain ⟨⟨xa, xn, xc, xb, xm, xd⟩, xr⟩ := x
          simp only [Hd.x, Hd.y] at c0 c1
          go_wp2_with fail
          go_quiet (fail)
          have EQ : Ext wr (wr.drewN nq) := Ext.refl wr
          go_wp2_with (at_builtin; refine appG tP rfl _ _ rfl wb _ os rfl ?a1 _ [(⟨⟨xa, xn, xc, xb, xm, xd⟩, xr⟩ : P)] rfl ?a2 ?a3 ?_; (case a1 => exact hO.ext (Ext.alloc EQ _ _)); (case a2 => exact rd_litG _ [(⟨⟨xa, xn, xc, xb, xm, xd⟩, xr⟩ : P)] #[.slice xa xn xc, .slice xb xm xd] 36 _ 1 rfl rfl (by simp) rfl); (case a3 => simp; omega); intro v5 w5 hO5 hg5)
          go_roundw
          case rel => exact ⟨ii + 1, kk, os ++ [(⟨⟨xa, xn, xc, xb, xm, xd⟩, xr⟩ : P)], hlt', hkk, by go_num, (by first | rfl | rw [hke2] | rw [← hke2]), hO5, Lib.hid (by rw [List.append_assoc, List.singleton_append, ← HX.out]; exact HM2.out), by simp; omega⟩
          case measure => simp [intOf]; omega
      · by_cases hlt2 : kk < nb
        · have hlt2' : kk < qb.length := by rw [← HNB.out]; exact hlt2
          have hk1 : (kk : Int) < (nb : Int) := by omega
          have hke : ((kk : Int) == (nb : Int)) = false := by simp; omega
          have hke2 : ¬ ((kk : Int) = (nb : Int)) := by omega
          have hi1 : decide ((ii : Int) < (na : Int)) = false := by simp; omega
          obtain ⟨g2, o2, rfl, d0', d1'⟩ := rd_P HB.out kk hlt2'
          have d0 := hO.2.keeps d0'
          have d1 := hO.2.keeps d1'
          have HX := Lib.hid (mrg_b0 qa qb ii kk (by rw [← HNA.out]; omega) hlt2')
          clear d0' d1'
          generalize qb[kk] = y at *
          obtain ⟨⟨ya, yn, yc, yb, ym, yd⟩, yr⟩ := y
          simp only [Hd.x, Hd.y] at d0 d1
          go_wp2_with fail
          go_quiet (fail)
          have EQ : Ext wr (wr.drewN nq) := Ext.refl wr
          go_wp2_with (at_builtin; refine appG tP rfl _ _ rfl wb _ os rfl ?a1 _ [(⟨⟨ya, yn, yc, yb, ym, yd⟩, yr⟩ : P)] rfl ?a2 ?a3 ?_; (case a1 => exact hO.ext (Ext.alloc EQ _ _)); (case a2 => exact rd_litG _ [(⟨⟨ya, yn, yc, yb, ym, yd⟩, yr⟩ : P)] #[.slice ya yn yc, .slice yb ym yd] 36 _ 1 rfl rfl (by simp) rfl); (case a3 => simp; omega); intro v5 w5 hO5 hg5)
          go_roundw
          case rel => exact ⟨ii, kk + 1, os ++ [(⟨⟨ya, yn, yc, yb, ym, yd⟩, yr⟩ : P)], hii, hlt2', rfl, by go_num, hO5, Lib.hid (by rw [List.append_assoc, List.singleton_append, ← HX.out]; exact HM2.out), by simp; omega⟩
          case measure => simp [intOf]; omega
        · have HX := Lib.hid (show os = mrg qa qb by
            have h1 := HM2.out
            rw [mrg_end qa qb ii kk (by rw [← HNA.out]; omega) (by rw [← HNB.out]; omega), List.append_nil] at h1
            exact h1)
          go_wp2_with fail
          go_ret
          exact ⟨_, os, rfl, hO.base HE.out, by rw [HX.out]; exact HPS.out, by rw [HX.out]; exact HSR.out⟩
end Go.Proofs.YtnckdopphimgoaaGreat
