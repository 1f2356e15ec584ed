/- The laws' FewRows. -/
import Derived.Test.YtohpmbabegpefaaHd
namespace Go.Proofs.Ytohpmbabegpefaa
open Go.ChangeShapes Go.WideShapes Go.ChangeAt Go.RowKit

def FewP (ps : List P) (k : Int) : Prop := (ps.length : Int) ≤ k ∧ ∀ p ∈ ps, p.r.v.length ≤ 6 ∧ p.r.t.length ≤ 6
def FwR (w : World) (ps : List P) (i : Value) (wr : World) : Prop := ∃ t : Nat, t ≤ ps.length ∧ i = .int .i64 t ∧ Hid (∀ (j : Nat) (h : j < ps.length), j < t → ps[j].r.v.length ≤ 6 ∧ ps[j].r.t.length ≤ 6) ∧ w = wr
theorem fw_next {ps : List P} {t : Nat} (ht : t < ps.length) (h : ∀ (j : Nat) (h : j < ps.length), j < t → ps[j].r.v.length ≤ 6 ∧ ps[j].r.t.length ≤ 6) (h2 : ps[t].r.v.length ≤ 6 ∧ ps[t].r.t.length ≤ 6) : ∀ (j : Nat) (h : j < ps.length), j < t + 1 → ps[j].r.v.length ≤ 6 ∧ ps[j].r.t.length ≤ 6 := fun j hj hlt => by
  by_cases e : j = t
  · subst e; exact h2
  · exact h j hj (by omega)
theorem fw_end {ps : List P} (h : ∀ (j : Nat) (h : j < ps.length), j < ps.length → ps[j].r.v.length ≤ 6 ∧ ps[j].r.t.length ≤ 6) : ∀ p ∈ ps, p.r.v.length ≤ 6 ∧ p.r.t.length ≤ 6 := fun p hp => by
  obtain ⟨j, hj, rfl⟩ := List.mem_iff_getElem.1 hp
  exact h j hj hj
def FwQ (ps : List P) (k : Int) (w : World) (e : Ending) (w' : World) : Prop := ∃ b, e = .returned (.bool b) ∧ (b = true → FewP ps k) ∧ w = w'
set_option maxHeartbeats 4000000 in
set_option maxRecDepth 100000 in
theorem few_law (ps : List P) (k : Int) (v : Value) (w : World) (h : RdG w v ps) (hI : RdAll w ps) (hk : 0 ≤ k) (hk2 : k ≤ 1000) : Calls Try.prog 9 #[v, .int .i64 k] w (FwQ ps k w) := by
  obtain ⟨ad, cap, rfl, h1, h2⟩ := h.shape
  have H := Lib.hid h
  have HI := Lib.hid hI
  clear h hI
  unfold maxLen at h2
  obtain ⟨n, hn⟩ : ∃ n, n = ps.length := ⟨_, rfl⟩
  have HN := Lib.hid hn
  rw [← hn] at H h1 ⊢
  clear hn
  go_enter Try.func9, Try.ntmps9
  go_wp2_with fail
  go_loopw [5] (FwR w ps) (fun i _ => n - (intOf i).toNat)
  case atStart => exact ⟨0, Nat.zero_le _, rfl, Lib.hid (fun j _ h => by omega), rfl⟩
  case round =>
    obtain ⟨t, ht, rfl, hS, rfl⟩ := hrel
    have htn : t ≤ n := by rw [HN.out]; exact ht
    by_cases hlt : t < n
    · have hlt' : t < ps.length := by rw [← HN.out]; exact hlt
      have hi0 : (0 : Int) ≤ (t : Int) := Int.natCast_nonneg _
      have hi1 : (t : Int) < (n : Int) := by omega
      by_cases htk : (t : Int) ≤ k
      · obtain ⟨g, o, rfl, c0, c1⟩ := rd_P H.out t hlt'
        have hix := HI.out ps[t] (List.getElem_mem _)
        have HX := Lib.hid (fw_next hlt' hS.out)
        have e1 := hix.1.len.1
        have e2 := hix.2.len.1
        generalize ps[t] = x at *
        obtain ⟨⟨xa, xn, xc, xb, xm, xd⟩, xr⟩ := x
        simp only [Hd.x, Hd.y] at c0 c1 e1 e2
        have HX2 := Lib.hid (show xn ≤ 6 ∧ xm ≤ 6 → _ from fun hh => HX.out (by rw [← e1, ← e2]; exact hh))
        clear hix e1 e2 HX
        by_cases hx : xn ≤ 6
        · have hx1 : ¬ (6 : Int) < (xn : Int) := by omega
          by_cases hy : xm ≤ 6
          · have hy1 : ¬ (6 : Int) < (xm : Int) := by omega
            have HX3 := Lib.hid (HX2.out ⟨hx, hy⟩)
            clear hx hy
            go_wp2_with fail
            go_roundw
            case rel => exact ⟨t + 1, hlt', by go_num, HX3, by first | rfl | trivial⟩
            case measure => simp [intOf]; omega
          · have hy1 : (6 : Int) < (xm : Int) := by omega
            clear hx hy
            go_wp2_with fail
            try simp only [Exit.inBlock, Exit.then]
            go_ret
            exact ⟨false, rfl, (fun h => by cases h), rfl⟩
        · have hx1 : (6 : Int) < (xn : Int) := by omega
          clear hx
          go_wp2_with fail
          try simp only [Exit.inBlock, Exit.then]
          go_ret
          exact ⟨false, rfl, (fun h => by cases h), rfl⟩
      · have hb : decide ((n : Int) ≤ k) = false := by simp; omega
        go_wp2_with fail
        go_ret
        exact ⟨_, rfl, (fun h => by first | cases h | (rw [hb] at h; cases h)), rfl⟩
    · have htn' : t = n := by omega
      have HA := Lib.hid (fw_end (ps := ps) (by have := hS.out; rw [htn', HN.out] at this; exact this))
      have HL := Lib.hid (show ((ps.length : Nat) : Int) = (n : Int) by rw [HN.out])
      go_wp2_with fail
      go_ret
      exact ⟨_, rfl, (fun h => ⟨by rw [HL.out]; first | exact of_decide_eq_true h | (simp at h; omega), HA.out⟩), rfl⟩
end Go.Proofs.Ytohpmbabegpefaa
