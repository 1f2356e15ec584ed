/- The law Constant. -/
import Derived.Test.YtcankdikbnllkaaGreatZz38
import Derived.Test.YtcankdikbnllkaaGreatZz45
import Derived.Test.YtcankdikbnllkaaGreatZz40
namespace Go.Proofs.YtcankdikbnllkaaGreat
open Go.ChangeShapes Go.WideShapes Go.ChangeAt Go.RowKit

theorem sl_eq2 {l m : List Tu} {t s : Int} : sl l t = sl m s ↔ ∀ r, ats l r t = ats m r s := by
  unfold sl
  rw [sortR_eq, List.perm_iff_count]
  refine forall_congr' fun r => ?_
  rw [sl_count, sl_count]
/-- the last of the first k boundaries that is not behind the point -/
def LsP (pts : List Int) (k : Nat) (m z : Int) : Prop := (z = -1 ∧ ∀ e ∈ pts.take k, m < e) ∨ (z ∈ pts.take k ∧ z ≤ m ∧ ∀ e ∈ pts.take k, e ≤ z ∨ m < e)
theorem LsP.start (pts : List Int) (m : Int) : LsP pts 0 m (-1) := Or.inl ⟨rfl, fun e he => by simp at he⟩
theorem LsP.hit {pts : List Int} {k : Nat} {m z : Int} (_ : LsP pts k m z) (ha : pts.Pairwise (· < ·)) (hk : k < pts.length) (hp : pts[k] ≤ m) : LsP pts (k + 1) m pts[k] := by
  refine Or.inr ⟨?_, hp, fun e he => Or.inl ?_⟩
  · rw [List.take_succ_eq_append_getElem hk]; exact List.mem_append.2 (Or.inr (List.mem_singleton.2 rfl))
  · obtain ⟨j, hj, rfl⟩ := List.mem_iff_getElem.1 he
    rw [List.length_take] at hj
    rw [List.getElem_take]
    by_cases c : j = k
    · subst c; exact Int.le_refl _
    · have := List.pairwise_iff_getElem.1 ha j k (by omega) hk (by omega); omega
theorem LsP.miss {pts : List Int} {k : Nat} {m z : Int} (h : LsP pts k m z) (hk : k < pts.length) (hp : m < pts[k]) : LsP pts (k + 1) m z := by
  have hm : ∀ e, e ∈ pts.take (k + 1) ↔ e ∈ pts.take k ∨ e = pts[k] := fun e => by rw [List.take_succ_eq_append_getElem hk, List.mem_append, List.mem_singleton]
  rcases h with ⟨h1, h2⟩ | ⟨h1, h2, h3⟩
  · refine Or.inl ⟨h1, fun e he => ?_⟩
    rcases (hm e).1 he with he | rfl
    · exact h2 e he
    · exact hp
  · refine Or.inr ⟨(hm _).2 (Or.inl h1), h2, fun e he => ?_⟩
    rcases (hm e).1 he with he | rfl
    · exact h3 e he
    · exact Or.inr hp
theorem LsP.none {l : List Tu} {pts : List Int} {k : Nat} {m z : Int} (h : LsP pts k m z) (hb : IsBd (prs l) pts) (hk : pts.length ≤ k) (hz : z < 0) : sl l m = [] := by
  unfold LsP at h
  rw [List.take_of_length_le hk] at h
  rcases h with ⟨_, h2⟩ | ⟨h1, _⟩
  · exact sl_nil fun r => ats_before hb h2 r
  · have := (hb.ok z h1).1; omega
theorem LsP.some {l : List Tu} {pts : List Int} {k : Nat} {m z : Int} (h : LsP pts k m z) (hb : IsBd (prs l) pts) (hk : pts.length ≤ k) (hz : 0 ≤ z) : sl l m = sl l z := by
  unfold LsP at h
  rw [List.take_of_length_le hk] at h
  rcases h with ⟨h1, _⟩ | ⟨_, h2, h3⟩
  · omega
  · exact sl_eq2.2 fun r => ats_still hb h2 h3 r
theorem LsP.lo {pts : List Int} {k : Nat} {m z : Int} (h : LsP pts k m z) (hm : 0 ≤ m ∧ m < 60) (hp : ∀ e ∈ pts, 0 ≤ e) : -1 ≤ z ∧ z ≤ 60 := by
  rcases h with ⟨h1, _⟩ | ⟨h1, h2, _⟩
  · omega
  · have := hp z (List.mem_of_mem_take h1); omega
def LcR (W : World) (pts : List Int) (m : Int) (u i : Value) (wr : World) : Prop := ∃ (k : Nat) (z : Int), k ≤ pts.length ∧ i = .int .i64 k ∧ u = .int .i64 z ∧ Hid (LsP pts k m z) ∧ wr = W
set_option maxHeartbeats 8000000 in
set_option maxRecDepth 100000 in
theorem law_TupleConstant (x : List Five) (t : Int) (vx : Value) (w : World) (rx : RdG w vx x) (kx : ∀ z ∈ x, z.ok) (t0 : 0 ≤ t) (_t1 : t ≤ 65535) : Calls Tryz.prog 9 #[vx, .int .u16 t] w fun e w' => e = .returned (.bool true) ∧ Ext w w' := by
  have HX := Lib.hid rx
  have KX := Lib.hid kx
  obtain ⟨m, hm⟩ : ∃ m, m = t % 60 := ⟨_, rfl⟩
  have hm1 : Int.tmod t 60 = m := by rw [Int.tmod_eq_emod_of_nonneg t0]; exact hm.symm
  have hm2 := hm.symm
  have hmb : 0 ≤ m ∧ m < 60 := by omega
  have wm1 := wrapU m (by omega) (by omega)
  have wm2 := wrapI m (by omega) (by omega)
  clear hm rx kx t0
  go_enter Tryz.func9, Tryz.ntmps9
  go_wp2_with fail
  refine (built 14 (by omega) x vx w HX.out KX.out).mono ?_; rintro e w1 ⟨v1, ts, rfl, o1, i1, s1, n1⟩
  have HR := Lib.hid o1.rd
  have HE1 := Lib.hid o1.2
  have HI := Lib.hid i1
  have HS := Lib.hid s1
  have HN := Lib.hid n1
  clear o1 i1 s1 n1
  go_wp2_with fail
  refine (bounds_prg ts v1 w1 HR.out (by have := HN.out; omega)).mono ?_; rintro e w2 ⟨v2, pts, rfl, r2, b2, e2⟩
  have HB := Lib.hid b2
  have HE2 := Lib.hid e2
  have HP := Lib.hid r2
  obtain ⟨ap, cp, rfl, g1, g2⟩ := r2.shape
  unfold maxLen at g2
  obtain ⟨np, hnp⟩ : ∃ z, z = pts.length := ⟨_, rfl⟩
  have HNP := Lib.hid hnp
  rw [← hnp] at g1 HP
  simp only [← hnp]
  clear hnp r2 b2 e2 hm1 hm2 wm1 wm2
  go_wp2_with fail
  go_loopw [7, 19] (LcR w2 pts m) (fun _ i _ => np - (intOf i).toNat)
  case atStart => exact ⟨0, -1, Nat.zero_le _, rfl, rfl, Lib.hid (LsP.start pts m), rfl⟩
  case round =>
    obtain ⟨k, z, hk, rfl, rfl, HL, rfl⟩ := hrel
    have hkn : k ≤ np := by rw [HNP.out]; exact hk
    have hk0 : (0 : Int) ≤ (k : Int) := by omega
    have hzb := HL.out.lo hmb (fun e he => (HB.out.ok e he).1)
    by_cases hlt : k < np
    · have hlt' : k < pts.length := by rw [← HNP.out]; exact hlt
      have hk1 : (k : Int) < (np : Int) := by omega
      obtain ⟨gp, op, rfl, c0⟩ := rd_I HP.out k hlt'
      have HH := Lib.hid (HL.out.hit HB.out.asc hlt')
      have HM := Lib.hid (HL.out.miss hlt')
      generalize pts[k] = p at *
      by_cases hpm : p ≤ m
      · have HX2 := Lib.hid (HH.out hpm)
        clear HH HM
        go_wp2_with fail
        go_roundw
        case rel => exact ⟨k + 1, p, hlt', by go_num, rfl, HX2, rfl⟩
        case measure => simp [intOf]; omega
      · have HX2 := Lib.hid (HM.out (by omega))
        have hpm2 : m < p := by omega
        clear HH HM
        go_wp2_with fail
        go_roundw
        case rel => exact ⟨k + 1, z, hlt', by go_num, rfl, HX2, rfl⟩
        case measure => simp [intOf]; omega
    · have hge : pts.length ≤ k := by rw [← HNP.out]; omega
      have HNO := Lib.hid (fun hz : z < 0 => HL.out.none HB.out hge hz)
      have HSO := Lib.hid (fun hz : 0 ≤ z => HL.out.some HB.out hge hz)
      have HE12 := Lib.hid (HE1.out.trans HE2.out)
      clear hge
      go_wp2_with fail
      refine (tslice_prg ts m v1 _ (HR.out.ext HE2.out) (HI.out.ext HE2.out) (by have := HN.out; omega) HS.out).mono ?_
      rintro e w4 ⟨v4, rs, rfl, s1, s2, s3, s4⟩
      have HS1 := Lib.hid s1
      have HS2 := Lib.hid s2
      have HS3 := Lib.hid s3
      have HE4 := Lib.hid s4
      clear s2 s3 s4
      by_cases hz : z < 0
      · have hrn : rs.length = 0 := by rw [← rows_len, HS3.out, HNO.out hz]; rfl
        obtain ⟨a4, c4, rfl, _, _⟩ := s1.shape
        simp only [hrn]
        clear s1 hrn
        go_wp2_with fail
        refine (awake_law _).mono ?_; rintro e w5 ⟨rfl, hE⟩
        go_wp2_with fail
        go_ret
        exact ⟨rfl, (HE12.out.trans HE4.out).trans hE⟩
      · have hz2 : 0 ≤ z := by omega
        clear s1
        go_wp2_with fail
        refine (awake_law _).mono ?_; rintro e w5 ⟨rfl, hE⟩
        have HE5 := Lib.hid hE
        clear hE
        go_wp2_with fail
        refine (tslice_prg ts z v1 w5 (HR.out.ext (HE2.out.trans (HE4.out.trans HE5.out))) (HI.out.ext (HE2.out.trans (HE4.out.trans HE5.out))) (by have := HN.out; omega) HS.out).mono ?_
        rintro e w6 ⟨v6, us, rfl, u1, u2, u3, u4⟩
        have HU1 := Lib.hid u1
        have HU2 := Lib.hid u2
        have HU3 := Lib.hid u3
        have HE6 := Lib.hid u4
        clear u1 u2 u3 u4
        go_wp2_with fail
        refine (sameRows_ref rs us v4 v6 w6 (HS1.out.ext (HE5.out.trans HE6.out)) HU1.out (HS2.out.ext (HE5.out.trans HE6.out)) HU2.out).mono ?_
        rintro e w7 ⟨rfl, hE7⟩
        have HT := Lib.hid (show srB (rows rs) (rows us) = true by unfold srB; rw [decide_eq_true_iff, HS3.out, HU3.out]; exact HSO.out hz2)
        rw [HT.out]
        go_wp2_with fail
        go_ret
        exact ⟨rfl, ((HE12.out.trans HE4.out).trans (HE5.out.trans HE6.out)).trans hE7⟩
end Go.Proofs.YtcankdikbnllkaaGreat
