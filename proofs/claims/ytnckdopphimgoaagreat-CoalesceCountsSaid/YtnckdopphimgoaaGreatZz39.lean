/- Coalesce, by the reference. -/
import Derived.Test.YtnckdopphimgoaaGreatZz08
import Derived.Test.YtnckdopphimgoaaGreatZz09
import Derived.Test.YtnckdopphimgoaaGreatZz14
import Derived.Test.YtnckdopphimgoaaGreatZz18
import Derived.Test.YtnckdopphimgoaaGreatZz31
import Derived.Test.YtnckdopphimgoaaGreatZz38
namespace Go.Proofs.YtnckdopphimgoaaGreat
open Go.ChangeShapes Go.WideShapes Go.ChangeAt Go.RowKit

set_option maxHeartbeats 8000000 in
set_option maxRecDepth 100000 in
theorem co_ref (ps : List TP) (v : Value) (w : World) (h : RdG w v ps) (hI : RdTs w ps) (hl : ps.length ≤ 400) : Calls Tryz.prog 7 #[v] w (CoQ ps w) := by
  obtain ⟨ad, cap, rfl, h1, h2⟩ := h.shape
  have H := Lib.hid h
  have HI := Lib.hid hI
  clear h hI
  unfold maxLen at h2
  obtain ⟨n, hn⟩ : ∃ n, n = ps.length := ⟨_, rfl⟩
  have HN := Lib.hid hn
  rw [← hn] at H h1 hl ⊢
  clear hn
  go_enter Tryz.func7, Tryz.ntmps7
  go_wp2_with fail
  go_loopw [3, 8] (CoR w (ps.map bareT)) (fun _ i _ => n - (intOf i).toNat)
  case atStart => exact ⟨0, Nat.zero_le _, rfl, by simpa using OwnG.nil _ _ _ (Ext.refl w)⟩
  case round =>
    obtain ⟨k, hk, rfl, hO⟩ := hrel
    rw [List.length_map] at hk
    have hkn : k ≤ n := by rw [HN.out]; exact hk
    by_cases hlt : k < n
    · have hlt' : k < ps.length := by rw [← HN.out]; exact hlt
      obtain ⟨g, o, rfl, c0', c1', c2', c3'⟩ := rd_T H.out k hlt'
      have c0 := hO.2.keeps c0'
      have c1 := hO.2.keeps c1'
      have c2 := hO.2.keeps c2'
      have c3 := hO.2.keeps c3'
      have hi0 : (0 : Int) ≤ (k : Int) := by omega
      have hi1 : (k : Int) < (n : Int) := by omega
      have HE := Lib.hid (List.take_succ_eq_append_getElem (l := ps.map bareT) (i := k) (by rw [List.length_map]; exact hlt'))
      rw [List.getElem_map] at HE
      have hln : ((ps.map bareT).take k).length ≤ 100000 := by rw [List.length_take, List.length_map]; omega
      clear c0' c1' c2' c3'
      generalize ps[k] = x at *
      obtain ⟨⟨xa, xn, xc, xb, xm, xd⟩, xr, pa, pb⟩ := x
      simp only [Hd.x, Hd.y] at c0 c1 c2 c3
      have HO := Lib.hid hO
      have HQN := Lib.hid hln
      generalize hqs : (ps.map bareT).take k = qs at *
      have HQS := Lib.hid hqs
      clear hO hln hqs
      go_wp2_with (at_builtin; refine appG tT rfl _ _ rfl w _ qs rfl ?a1 _ [(⟨⟨xa, xn, xc, none, 0, 0⟩, stp xr, pa, pb⟩ : TP)] rfl ?a2 ?a3 ?_; (case a1 => exact HO.out.ext (((Ext.refl wr).alloc _ _).alloc _ _)); (case a2 => exact rd_litG _ [(⟨⟨xa, xn, xc, none, 0, 0⟩, stp xr, pa, pb⟩ : TP)] #[Value.slice xa xn xc, .int .i64 pa, .int .i64 pb, Value.slice none 0 0] 42 _ 1 (alsz _ _).symm rfl (by simp) rfl); (case a3 => have := HQN.out; simp; omega); intro v5 w5 hO5 hg5)
      go_roundw
      case rel => exact ⟨k + 1, by rw [List.length_map]; exact hlt', by go_num, by rw [HE.out]; exact hO5⟩
      case measure => first | (simp [intOf]; done) | (simp [intOf]; omega)
    · have hke : k = n := by omega
      have hall : (ps.map bareT).take k = ps.map bareT := by rw [List.take_of_length_le]; rw [List.length_map, ← HN.out, hke]; exact Nat.le_refl _
      rw [hall] at hO
      have HO := Lib.hid hO
      clear hO hall
      go_wp2_with fail
      refine (norm_ref9 (ps.map bareT) _ wr HO.out.rd (HI.out.bare.ext HO.out.2) (by rw [List.length_map, ← HN.out]; exact hl)).mono ?_
      rintro e w3 ⟨v3, qs, rfl, r1, r2, r3, r5⟩
      go_wp2_with fail
      go_ret
      rw [tus_bare] at r3
      exact ⟨_, qs, rfl, r1, r2, r3, HO.out.2.trans r5⟩
end Go.Proofs.YtnckdopphimgoaaGreat
/- The laws' FewTuples. -/
namespace Go.Proofs.YtnckdopphimgoaaGreat
open Go.ChangeShapes Go.WideShapes Go.ChangeAt Go.RowKit

def FewT (ps : List TP) (k : Int) : Prop := (ps.length : Int) ≤ k ∧ ∀ p ∈ ps, p.r.v.length ≤ 6 ∧ p.r.t.length ≤ 6
def FwR (w : World) (ps : List TP) (i : Value) (wr : World) : Prop := ∃ t : Nat, t ≤ ps.length ∧ i = .int .i64 t ∧ Hid (∀ (j : Nat) (h : j < ps.length), j < t → ps[j].r.v.length ≤ 6 ∧ ps[j].r.t.length ≤ 6) ∧ w = wr
theorem fw_next {ps : List TP} {t : Nat} (ht : t < ps.length) (h : ∀ (j : Nat) (h : j < ps.length), j < t → ps[j].r.v.length ≤ 6 ∧ ps[j].r.t.length ≤ 6) (h2 : ps[t].r.v.length ≤ 6 ∧ ps[t].r.t.length ≤ 6) : ∀ (j : Nat) (h : j < ps.length), j < t + 1 → ps[j].r.v.length ≤ 6 ∧ ps[j].r.t.length ≤ 6 := fun j hj hlt => by
  by_cases e : j = t
  · subst e; exact h2
  · exact h j hj (by omega)
theorem fw_end {ps : List TP} (h : ∀ (j : Nat) (h : j < ps.length), j < ps.length → ps[j].r.v.length ≤ 6 ∧ ps[j].r.t.length ≤ 6) : ∀ p ∈ ps, p.r.v.length ≤ 6 ∧ p.r.t.length ≤ 6 := fun p hp => by
  obtain ⟨j, hj, rfl⟩ := List.mem_iff_getElem.1 hp
  exact h j hj hj
def FwQ (ps : List TP) (k : Int) (w : World) (e : Ending) (w' : World) : Prop := ∃ b, e = .returned (.bool b) ∧ (b = true → FewT ps k) ∧ w = w'
set_option maxHeartbeats 4000000 in
set_option maxRecDepth 100000 in
theorem fewT_law (ps : List TP) (k : Int) (v : Value) (w : World) (h : RdG w v ps) (hI : RdTs w ps) (hk : 0 ≤ k) (hk2 : k ≤ 1000) : Calls Tryz.prog 5 #[v, .int .i64 k] w (FwQ ps k w) := by
  obtain ⟨ad, cap, rfl, h1, h2⟩ := h.shape
  have H := Lib.hid h
  have HI := Lib.hid hI
  clear h hI
  unfold maxLen at h2
  obtain ⟨n, hn⟩ : ∃ n, n = ps.length := ⟨_, rfl⟩
  have HN := Lib.hid hn
  rw [← hn] at H h1 ⊢
  clear hn
  go_enter Tryz.func5, Tryz.ntmps5
  go_wp2_with fail
  go_loopw [5] (FwR w ps) (fun i _ => n - (intOf i).toNat)
  case atStart => exact ⟨0, Nat.zero_le _, rfl, Lib.hid (fun j _ h => by omega), rfl⟩
  case round =>
    obtain ⟨t, ht, rfl, hS, rfl⟩ := hrel
    have htn : t ≤ n := by rw [HN.out]; exact ht
    by_cases hlt : t < n
    · have hlt' : t < ps.length := by rw [← HN.out]; exact hlt
      have hi0 : (0 : Int) ≤ (t : Int) := Int.natCast_nonneg _
      have hi1 : (t : Int) < (n : Int) := by omega
      by_cases htk : (t : Int) ≤ k
      · obtain ⟨g, o, rfl, c0, ca, cb, c1⟩ := rd_T H.out t hlt'
        have hix := HI.out ps[t] (List.getElem_mem _)
        have HX := Lib.hid (fw_next hlt' hS.out)
        have e1 := hix.1.len.1
        have e2 := hix.2.len.1
        generalize ps[t] = x at *
        obtain ⟨⟨xa, xn, xc, xb, xm, xd⟩, xr, pa, pb⟩ := x
        simp only [Hd.x, Hd.y] at c0 c1 e1 e2
        have HX2 := Lib.hid (show xn ≤ 6 ∧ xm ≤ 6 → _ from fun hh => HX.out (by rw [← e1, ← e2]; exact hh))
        clear hix e1 e2 HX
        by_cases hx : xn ≤ 6
        · have hx1 : ¬ (6 : Int) < (xn : Int) := by omega
          by_cases hy : xm ≤ 6
          · have hy1 : ¬ (6 : Int) < (xm : Int) := by omega
            have HX3 := Lib.hid (HX2.out ⟨hx, hy⟩)
            clear hx hy
            go_wp2_with fail
            go_roundw
            case rel => exact ⟨t + 1, hlt', by go_num, HX3, by first | rfl | trivial⟩
            case measure => simp [intOf]; omega
          · have hy1 : (6 : Int) < (xm : Int) := by omega
            clear hx hy
            go_wp2_with fail
            try simp only [Exit.inBlock, Exit.then]
            go_ret
            exact ⟨false, rfl, (fun h => by cases h), rfl⟩
        · have hx1 : (6 : Int) < (xn : Int) := by omega
          clear hx
          go_wp2_with fail
          try simp only [Exit.inBlock, Exit.then]
          go_ret
          exact ⟨false, rfl, (fun h => by cases h), rfl⟩
      · have hb : decide ((n : Int) ≤ k) = false := by simp; omega
        go_wp2_with fail
        go_ret
        exact ⟨_, rfl, (fun h => by first | cases h | (rw [hb] at h; cases h)), rfl⟩
    · have htn' : t = n := by omega
      have HA := Lib.hid (fw_end (ps := ps) (by have := hS.out; rw [htn', HN.out] at this; exact this))
      have HL := Lib.hid (show ((ps.length : Nat) : Int) = (n : Int) by rw [HN.out])
      go_wp2_with fail
      go_ret
      exact ⟨_, rfl, (fun h => ⟨by rw [HL.out]; first | exact of_decide_eq_true h | (simp at h; omega), HA.out⟩), rfl⟩
end Go.Proofs.YtnckdopphimgoaaGreat
/- The laws' builders of periods and tuples. -/
namespace Go.Proofs.YtnckdopphimgoaaGreat
open Go.ChangeShapes Go.WideShapes Go.ChangeAt Go.RowKit

set_option maxHeartbeats 4000000 in
theorem period_law (x y : Int) (h0 : 0 ≤ x) (_h1 : x ≤ 65535) (k0 : 0 ≤ y) (_k1 : y ≤ 65535) (w : World) : Calls Tryz.prog 34 #[.int .u16 x, .int .u16 y] w (BpP w) := by
  obtain ⟨f, hf⟩ : ∃ m, m = x % 40 := ⟨_, rfl⟩
  obtain ⟨m, hm⟩ : ∃ m, m = y % 11 := ⟨_, rfl⟩
  obtain ⟨d, hd⟩ : ∃ m, m = y % 15 := ⟨_, rfl⟩
  have hf1 : Int.tmod x 40 = f := by rw [Int.tmod_eq_emod_of_nonneg h0]; exact hf.symm
  have hm1 : Int.tmod y 11 = m := by rw [Int.tmod_eq_emod_of_nonneg k0]; exact hm.symm
  have hd1 : Int.tmod y 15 = d := by rw [Int.tmod_eq_emod_of_nonneg k0]; exact hd.symm
  have hf2 := hf.symm
  have hm2 := hm.symm
  have hd2 := hd.symm
  have hfb : 0 ≤ f ∧ f ≤ 39 := by omega
  have hmb : 0 ≤ m ∧ m ≤ 10 := by omega
  have hdb : 0 ≤ d ∧ d ≤ 14 := by omega
  have wf1 := wrapU f (by omega) (by omega)
  have wm1 := wrapU m (by omega) (by omega)
  have wd1 := wrapU d (by omega) (by omega)
  have wf2 := wrapI f (by omega) (by omega)
  have wd2 := wrapI d (by omega) (by omega)
  have wf3 := wrapI (f + 1) (by omega) (by omega)
  have wf4 := wrapI (f + 1 + d) (by omega) (by omega)
  clear hf hm hd
  by_cases hz : m = 0
  · subst hz
    go_enter Tryz.func34, Tryz.ntmps34
    go_wp2_with fail
    all_goals
      exact bodyPost_ret (v := pv f 1000000) (by simp [results, Tryz.results34, go_sem]) rfl ⟨_, _, rfl, by repeat (first | exact Ext.refl _ | refine Ext.alloc ?_ _ _ | refine Ext.setNew ?_ _ _ (by simp; try omega) _)⟩
  · have hz1 : (m == 0) = false := by simpa using hz
    go_enter Tryz.func34, Tryz.ntmps34
    go_wp2_with fail
    all_goals
      exact bodyPost_ret (v := pv f (f + 1 + d)) (by simp [results, Tryz.results34, go_sem]) rfl ⟨_, _, rfl, by repeat (first | exact Ext.refl _ | refine Ext.alloc ?_ _ _ | refine Ext.setNew ?_ _ _ (by simp; try omega) _)⟩
/-- some tuple, its parts the call's own -/
def BtP (w : World) (e : Ending) (w' : World) : Prop := ∃ (v : Value) (l : List V) (v2 : Value) (l2 : List Int) (a b : Int), e = .returned (.agg #[v, .int .i64 a, .int .i64 b, v2]) ∧ OwnG tV.e w w' v l ∧ OwnG tI.e w w' v2 l2 ∧ l.length = 2 ∧ l2.length = 1 ∧ (∀ v ∈ l, SmV v) ∧ ∀ x ∈ l2, 1 ≤ x ∧ x ≤ 5
end Go.Proofs.YtnckdopphimgoaaGreat
