/- The law BagDiffEmpty. -/
import Derived.Test.YtohpmbabegpefaaLb4
import Derived.Test.YtohpmbabegpefaaBg2
import Derived.Test.YtohpmbabegpefaaLs9
namespace Go.Proofs.Ytohpmbabegpefaa
open Go.ChangeShapes Go.WideShapes Go.ChangeAt Go.RowKit

/-- the rows without their lineage, so far -/
def BdR (W : World) (ps : List P) (vo i : Value) (wr : World) : Prop := ∃ (k : Nat) (os : List P), k ≤ ps.length ∧ i = .int .i64 k ∧ OwnG tP.e W wr vo os ∧ RdAll W os ∧ rows os = ((rows ps).take k).map bare ∧ os.length = k
theorem bd_next {ps os : List P} {k : Nat} {x : P} {h : Hd} (hk : k < ps.length) (hx : ps[k] = x) (ho : rows os = ((rows ps).take k).map bare) : rows (os ++ [⟨h, ⟨x.r.v, []⟩⟩]) = ((rows ps).take (k + 1)).map bare := by
  rw [rows_app, ho, List.take_succ_eq_append_getElem (by rw [rows_len]; exact hk), List.map_append, rows_at ps k hk, hx]; rfl
theorem diff_flag (A B l g : List R) (hl : l = sur (cnt B) (sortR A)) (hg : g = sur (cnt A) (sortR B)) : decide (l.length + g.length = 0) = eqB (A.map bare) (B.map bare) := by
  unfold eqB
  rw [decide_eq_decide, ← diff_empty, ← hl, ← hg]
  constructor
  · intro h; exact ⟨List.eq_nil_of_length_eq_zero (by omega), List.eq_nil_of_length_eq_zero (by omega)⟩
  · rintro ⟨rfl, rfl⟩; rfl
set_option maxHeartbeats 8000000 in
set_option maxRecDepth 100000 in
theorem law_BagDiffEmpty (x y : List Five) (vx vy : Value) (w : World) (rx : RdG w vx x) (ry : RdG w vy y) (kx : ∀ z ∈ x, z.ok) (ky : ∀ z ∈ y, z.ok) : Calls Try.prog 8 #[vx, vy] w fun e w' => e = .returned (.bool true) ∧ Ext w w' := by
  have HX := Lib.hid rx
  have HY := Lib.hid ry
  have KX := Lib.hid kx
  have KY := Lib.hid ky
  clear rx ry kx ky
  go_enter Try.func8, Try.ntmps8
  go_wp2_with fail
  refine (rows_law x vx w HX.out KX.out).mono ?_; rintro e w1 ⟨va, ps, rfl, r1, i1, l1, s1, hE1⟩
  have X1 := Lib.hid hE1
  have RA := Lib.hid r1
  have IA := Lib.hid i1
  have SA := Lib.hid (small_of s1)
  have LA := Lib.hid l1
  clear hE1 r1 i1 l1 s1
  go_wp2_with fail
  refine (rows_law y vy w1 (HY.out.ext X1.out) KY.out).mono ?_; rintro e w2 ⟨vb, qs, rfl, r1, i1, l1, s1, hE2⟩
  have X2 := Lib.hid hE2
  have RB := Lib.hid r1
  have IB := Lib.hid i1
  have SB := Lib.hid (small_of s1)
  have LB := Lib.hid l1
  clear hE2 r1 i1 l1 s1
  go_wp2_with fail
  refine (diff_prg ps qs va vb w2 (RA.out.ext X2.out) RB.out (IA.out.ext X2.out) IB.out (by have := LA.out; omega) (by have := LB.out; omega) SA.out SB.out).mono ?_
  rintro e w3 ⟨vl, vg, ol, og, rfl, ⟨p1, p2, p3⟩, ⟨q1, q2, q3⟩, hE3⟩
  have X3 := Lib.hid hE3
  have P1 := Lib.hid p1
  have P2 := Lib.hid p2
  have P3 := Lib.hid p3
  have Q1 := Lib.hid q1
  have Q2 := Lib.hid q2
  have Q3 := Lib.hid q3
  clear hE3 p1 p2 p3 q1 q2 q3
  go_wp2_with fail
  refine (diff_prg qs ps vb va w3 (RB.out.ext X3.out) (RA.out.ext (X2.out.trans X3.out)) (IB.out.ext X3.out) (IA.out.ext (X2.out.trans X3.out)) (by have := LB.out; omega) (by have := LA.out; omega) SB.out SA.out).mono ?_
  rintro e w4 ⟨vbk, vfo, ok, of, rfl, ⟨p1, p2, p3⟩, ⟨q1, q2, q3⟩, hE4⟩
  have X4 := Lib.hid hE4
  have P4 := Lib.hid p1
  have P5 := Lib.hid p2
  have P6 := Lib.hid p3
  have Q4 := Lib.hid q1
  have Q5 := Lib.hid q2
  have Q6 := Lib.hid q3
  have RA4 := Lib.hid (RA.out.ext (X2.out.trans (X3.out.trans X4.out)))
  have IA4 := Lib.hid (IA.out.ext (X2.out.trans (X3.out.trans X4.out)))
  obtain ⟨al, cl, rfl, _, _⟩ := P1.out.shape
  obtain ⟨ag, cg, rfl, _, _⟩ := Q1.out.shape
  have HFL := Lib.hid (diff_flag (rows ps) (rows qs) (rows ol) (rows og) P3.out Q3.out)
  rw [rows_len, rows_len] at HFL
  have hol : ol.length ≤ 30 := by
    have h1 := congrArg List.length P3.out
    have h2 := sur_len (sortR (rows ps)) (cnt (rows qs))
    rw [rows_len] at h1
    rw [sortR_len, rows_len] at h2
    have := LA.out; omega
  have hog : og.length ≤ 30 := by
    have h1 := congrArg List.length Q3.out
    have h2 := sur_len (sortR (rows qs)) (cnt (rows ps))
    rw [rows_len] at h1
    rw [sortR_len, rows_len] at h2
    have := LB.out; omega
  have HOL := Lib.hid hol
  have HOG := Lib.hid hog
  obtain ⟨nl, hnl⟩ : ∃ n, n = ol.length := ⟨_, rfl⟩
  obtain ⟨ng, hng⟩ : ∃ n, n = og.length := ⟨_, rfl⟩
  rw [← hnl] at P1 HFL HOL ⊢
  rw [← hng] at Q1 HFL HOG ⊢
  clear hE4 p1 p2 p3 q1 q2 q3 hol hog hnl hng
  obtain ⟨aP, cP, rfl, s1, s2⟩ := RA4.out.shape
  obtain ⟨na, hn⟩ : ∃ n, n = ps.length := ⟨_, rfl⟩
  have HNP := Lib.hid hn
  rw [← hn] at RA4 s1 ⊢
  clear hn
  unfold maxLen at s2
  go_wp2_with fail
  go_loopw [11, 35] (BdR w4 ps) (fun _ i _ => na - (intOf i).toNat)
  case atStart => exact ⟨0, [], Nat.zero_le _, rfl, OwnG.nil _ _ _ (Ext.refl _), (fun p h => by cases h), by simp [rows], rfl⟩
  case round =>
    obtain ⟨k, osP, hk, rfl, hO, hI, hR, hL⟩ := hrel
    have hkn : k ≤ na := by rw [HNP.out]; exact hk
    by_cases hlt : k < na
    · have hlt' : k < ps.length := by rw [← HNP.out]; exact hlt
      obtain ⟨g, o, rfl, c0', c1'⟩ := rd_P RA4.out k hlt'
      have c0 := hO.2.keeps c0'
      have c1 := hO.2.keeps c1'
      have hix := IA4.out ps[k] (List.getElem_mem _)
      have HBN := Lib.hid (fun (h : Hd) (x : P) (hx : ps[k] = x) => bd_next (h := h) hlt' hx hR)
      clear c0' c1'
      obtain ⟨x, hx⟩ : ∃ x, ps[k] = x := ⟨_, rfl⟩
      have HBX := Lib.hid (HBN.out · x hx)
      rw [hx] at c0 c1 hix
      clear hx HBN
      obtain ⟨⟨xa, xn, xc, xb, xm, xd⟩, xr⟩ := x
      simp only [Hd.x, Hd.y] at c0 c1
      have HP := Lib.hid (show RdRow w4 ⟨⟨xa, xn, xc, none, 0, 0⟩, ⟨xr.v, []⟩⟩ from ⟨hix.1, rdG_nil _⟩)
      have HO := Lib.hid hO
      have HI := Lib.hid hI
      have HLL := Lib.hid hL
      clear hix hO hI hL hR
      go_wp2_with (at_builtin; refine appG tP rfl _ _ rfl w4 _ osP rfl ?a1 _ [(⟨⟨xa, xn, xc, none, 0, 0⟩, ⟨xr.v, []⟩⟩ : P)] rfl ?a2 ?a3 ?_; (have z1 := HO.out.ext (((Ext.refl wr).alloc #[.slice xa xn xc, .slice xb xm xd] 32).alloc #[.slice xa xn xc, .slice none 0 0] 32); case a1 => exact z1); (have z2 := rd_litG (wr.alloc (.cells #[.slice xa xn xc, .slice xb xm xd] 32)) [(⟨⟨xa, xn, xc, none, 0, 0⟩, ⟨xr.v, []⟩⟩ : P)] #[.slice xa xn xc, .slice none 0 0] 32 _ 1 rfl rfl (by simp) rfl; rw [alsz] at z2; case a2 => exact z2); (case a3 => have := HLL.out; have := LA.out; have := HNP.out; simp; omega); intro v5 w5 hO5 hg5)
      go_roundw
      case rel => exact ⟨k + 1, _, hlt', by go_num, hO5, (fun p hp => by
        rcases List.mem_append.1 hp with hp | hp
        · exact HI.out p hp
        · rw [List.mem_singleton.1 hp]; exact HP.out), HBX.out _, by rw [List.length_append, HLL.out]; rfl⟩
      case measure => simp [intOf]; omega
    · have hall : (rows ps).take k = rows ps := by rw [List.take_of_length_le]; rw [rows_len, ← HNP.out]; omega
      rw [hall] at hR
      have HPR := Lib.hid hR
      have HPO := Lib.hid hO
      have HPI := Lib.hid hI
      have HPL := Lib.hid (show osP.length ≤ 1000000 by have := LA.out; have := HNP.out; omega)
      clear hR hO hI hL hall
      have X5 := Lib.hid HPO.out.2
      have RB5 := Lib.hid (RB.out.ext (X3.out.trans (X4.out.trans X5.out)))
      have IB5 := Lib.hid (IB.out.ext (X3.out.trans (X4.out.trans X5.out)))
      obtain ⟨wq, hwq⟩ : ∃ z, z = wr := ⟨_, rfl⟩
      rw [← hwq] at HPO X5 RB5 IB5 ⊢
      clear hwq
      obtain ⟨aQ, cQ, rfl, s1, s2⟩ := RB5.out.shape
      obtain ⟨nb, hn⟩ : ∃ n, n = qs.length := ⟨_, rfl⟩
      have HNQ := Lib.hid hn
      rw [← hn] at RB5 s1 ⊢
      clear hn
      unfold maxLen at s2
      go_wp2_with fail
      go_loopw [12, 48] (BdR wq qs) (fun _ i _ => nb - (intOf i).toNat)
      case atStart => exact ⟨0, [], Nat.zero_le _, rfl, OwnG.nil _ _ _ (Ext.refl _), (fun p h => by cases h), by simp [rows], rfl⟩
      case round =>
        obtain ⟨k, osQ, hk, rfl, hO, hI, hR, hL⟩ := hrel
        have hkn : k ≤ nb := by rw [HNQ.out]; exact hk
        by_cases hlt : k < nb
        · have hlt' : k < qs.length := by rw [← HNQ.out]; exact hlt
          obtain ⟨g, o, rfl, c0', c1'⟩ := rd_P RB5.out k hlt'
          have c0 := hO.2.keeps c0'
          have c1 := hO.2.keeps c1'
          have hix := IB5.out qs[k] (List.getElem_mem _)
          have HBN := Lib.hid (fun (h : Hd) (x : P) (hx : qs[k] = x) => bd_next (h := h) hlt' hx hR)
          clear c0' c1'
          obtain ⟨x, hx⟩ : ∃ x, qs[k] = x := ⟨_, rfl⟩
          have HBX := Lib.hid (HBN.out · x hx)
          rw [hx] at c0 c1 hix
          clear hx HBN
          obtain ⟨⟨xa, xn, xc, xb, xm, xd⟩, xr⟩ := x
          simp only [Hd.x, Hd.y] at c0 c1
          have HP := Lib.hid (show RdRow wq ⟨⟨xa, xn, xc, none, 0, 0⟩, ⟨xr.v, []⟩⟩ from ⟨hix.1, rdG_nil _⟩)
          have HO := Lib.hid hO
          have HI := Lib.hid hI
          have HLL := Lib.hid hL
          clear hix hO hI hL hR
          go_wp2_with (at_builtin; refine appG tP rfl _ _ rfl wq _ osQ rfl ?a1 _ [(⟨⟨xa, xn, xc, none, 0, 0⟩, ⟨xr.v, []⟩⟩ : P)] rfl ?a2 ?a3 ?_; (have z1 := HO.out.ext (((Ext.refl wr).alloc #[.slice xa xn xc, .slice xb xm xd] 32).alloc #[.slice xa xn xc, .slice none 0 0] 32); case a1 => exact z1); (have z2 := rd_litG (wr.alloc (.cells #[.slice xa xn xc, .slice xb xm xd] 32)) [(⟨⟨xa, xn, xc, none, 0, 0⟩, ⟨xr.v, []⟩⟩ : P)] #[.slice xa xn xc, .slice none 0 0] 32 _ 1 rfl rfl (by simp) rfl; rw [alsz] at z2; case a2 => exact z2); (case a3 => have := HLL.out; have := LB.out; have := HNQ.out; simp; omega); intro v5 w5 hO5 hg5)
          go_roundw
          case rel => exact ⟨k + 1, _, hlt', by go_num, hO5, (fun p hp => by
            rcases List.mem_append.1 hp with hp | hp
            · exact HI.out p hp
            · rw [List.mem_singleton.1 hp]; exact HP.out), HBX.out _, by rw [List.length_append, HLL.out]; rfl⟩
          case measure => simp [intOf]; omega
        · have hall : (rows qs).take k = rows qs := by rw [List.take_of_length_le]; rw [rows_len, ← HNQ.out]; omega
          rw [hall] at hR
          have HQR := Lib.hid hR
          have HQO := Lib.hid hO
          have HQI := Lib.hid hI
          have HQL := Lib.hid (show osQ.length ≤ 1000000 by have := LB.out; have := HNQ.out; omega)
          clear hR hO hI hL hall
          have X6 := Lib.hid HQO.out.2
          obtain ⟨wz, hwz⟩ : ∃ z, z = wr := ⟨_, rfl⟩
          rw [← hwz] at HQO X6 ⊢
          clear hwz
          go_wp2_with fail
          refine (awake_law _).mono ?_; rintro e w8 ⟨rfl, hE8⟩
          have X8 := Lib.hid hE8
          clear hE8
          have b1 := HOL.out
          have b2 := HOG.out
          have HFB := Lib.hid (show ((((nl : Int) + (ng : Int)) == 0) : Bool) = eqB ((rows ps).map bare) ((rows qs).map bare) by rw [← HFL.out]; exact Bool.eq_iff_iff.2 (by simp; omega))
          have HEQ := Lib.hid (equal_prg osP osQ _ _ w8 (HPO.out.rd.ext (X6.out.trans X8.out)) (HQO.out.rd.ext X8.out) (fun p hp => (HPI.out p hp).ext (X5.out.trans (X6.out.trans X8.out))) (fun p hp => (HQI.out p hp).ext (X6.out.trans X8.out)) HPL.out HQL.out)
          rw [HPR.out, HQR.out] at HEQ
          have S1 := Lib.hid (fun z (hg : Ext w4 z) => sameRows_ref ol of (.slice al nl cl) vfo z (P1.out.ext (X4.out.trans hg)) (Q4.out.ext hg) (fun p hp => (P2.out p hp).ext (X4.out.trans hg)) (fun p hp => (Q5.out p hp).ext hg))
          have S2 := Lib.hid (fun z (hg : Ext w4 z) => sameRows_ref og ok (.slice ag ng cg) vbk z (Q1.out.ext (X4.out.trans hg)) (P4.out.ext hg) (fun p hp => (Q2.out p hp).ext (X4.out.trans hg)) (fun p hp => (P5.out p hp).ext hg))
          have hs1 : srB (rows ol) (rows of) = true := by unfold srB; rw [P3.out, Q6.out]; simp
          have hs2 : srB (rows og) (rows ok) = true := by unfold srB; rw [Q3.out, P6.out]; simp
          rw [hs1] at S1
          rw [hs2] at S2
          clear hs1 hs2
          generalize eqB ((rows ps).map bare) ((rows qs).map bare) = fl at HFB HEQ
          cases fl
          all_goals
            have hfb := HFB.out
            go_wp2_with fail
            refine HEQ.out.mono ?_; rintro e w9 ⟨rfl, hE9⟩
            have X9 := Lib.hid (X5.out.trans (X6.out.trans (X8.out.trans hE9)))
            clear hE9
            go_wp2_with fail
            refine (S1.out _ X9.out).mono ?_; rintro e w10 ⟨rfl, hE10⟩
            have X10 := Lib.hid (X9.out.trans hE10)
            clear hE10
            go_wp2_with fail
            refine (S2.out _ X10.out).mono ?_; rintro e w11 ⟨rfl, hE11⟩
            go_wp2_with fail
            go_ret
            exact ⟨rfl, X1.out.trans (X2.out.trans (X3.out.trans (X4.out.trans (X10.out.trans hE11))))⟩
end Go.Proofs.Ytohpmbabegpefaa
