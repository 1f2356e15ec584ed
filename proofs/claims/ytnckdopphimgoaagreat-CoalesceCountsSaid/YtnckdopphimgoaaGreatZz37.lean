/- The reference's Normalize. -/
import Derived.Test.YtnckdopphimgoaaGreatZz30
import Derived.Test.YtnckdopphimgoaaGreatZz33
import Derived.Test.YtnckdopphimgoaaGreatZz35
import Derived.Test.YtnckdopphimgoaaGreatZz36
namespace Go.Proofs.YtnckdopphimgoaaGreat
open Go.ChangeShapes Go.WideShapes Go.ChangeAt Go.RowKit

def SeenR (qs : List P) (k : Nat) (r : R) : Prop := ∃ x ∈ qs.take k, x.r = r
theorem seen_next {qs : List P} {k : Nat} (hk : k < qs.length) (r : R) : SeenR qs (k + 1) r ↔ (SeenR qs k r ∨ r = qs[k].r) := by
  unfold SeenR
  rw [List.take_succ_eq_append_getElem hk]
  constructor
  · rintro ⟨x, hx, e⟩
    rcases List.mem_append.1 hx with hx | hx
    · exact Or.inl ⟨x, hx, e⟩
    · rw [List.mem_singleton.1 hx] at e; exact Or.inr e.symm
  · rintro (⟨x, hx, e⟩ | e)
    · exact ⟨x, List.mem_append.2 (Or.inl hx), e⟩
    · exact ⟨_, List.mem_append.2 (Or.inr (List.mem_singleton.2 rfl)), e.symm⟩
theorem seen_same {qs : List P} {k : Nat} (hk : k + 1 < qs.length) (he : qs[k].r = qs[k + 1].r) (r : R) : SeenR qs (k + 1 + 1) r ↔ SeenR qs (k + 1) r := by
  rw [seen_next hk]
  constructor
  · rintro (h | h)
    · exact h
    · rw [seen_next (by omega)]; exact Or.inr (h.trans he.symm)
  · exact Or.inl
theorem seen_lt {qs : List P} (hs : Srtd (rows qs)) {k : Nat} (hk : k < qs.length) (hn : k = 0 ∨ ∃ h : k - 1 < qs.length, qs[k - 1].r ≠ qs[k].r) (r : R) (h : SeenR qs k r) : cmpW r qs[k].r < 0 := by
  obtain ⟨x, hx, rfl⟩ := h
  obtain ⟨j, hj, rfl⟩ := List.mem_iff_getElem.1 hx
  rw [List.length_take] at hj
  rw [List.getElem_take]
  have hs' : ∀ i j (hi : i < qs.length) (hj : j < qs.length), i < j → cmpW qs[i].r qs[j].r ≤ 0 := fun i j hi hj hij => by
    have := List.pairwise_iff_getElem.1 hs i j (by rw [rows_len]; exact hi) (by rw [rows_len]; exact hj) hij
    rwa [rows_at qs i hi, rows_at qs j hj] at this
  rcases hn with rfl | ⟨h1, h2⟩
  · omega
  · have h3 := hs' (k - 1) k h1 hk (by omega)
    have h4 : cmpW qs[k - 1].r qs[k].r ≠ 0 := fun e => h2 ((cw_ord.zero _ _).1 e)
    by_cases e : j = k - 1
    · subst e; omega
    · have h5 := hs' j (k - 1) (by omega) h1 (by omega)
      have h6 := cw_ord.le_trans h5 h3
      have h7 : cmpW (qs[j]'(by omega)).r qs[k].r ≠ 0 := fun e0 => by
        have e1 := (cw_ord.zero _ _).1 e0
        rw [e1] at h5
        have := cw_ord.swap qs[k - 1].r qs[k].r
        omega
      omega
def sameR (r : R) (p : TP) : Bool := decide (p.r = r)
theorem cov_group (ps : List TP) (r : R) (t : Int) : cov (prs (tus (ps.filter (sameR r)))) t = ats (tus ps) r t := by
  have : prs (tus (ps.filter (sameR r))) = per (tus ps) r := by
    unfold prs per tus
    rw [List.filter_map, List.map_map, List.map_map]
    rfl
  unfold ats; rw [this]
/-- what holds while the rows are worked off -/
structure NrI (ps : List TP) (qs : List P) (k : Nat) (N : List TP) : Prop where
  prt : Prt (ats (tus ps)) (SeenR qs k) (tus N)
  len : N.length ≤ k * (400 * 800)
theorem NrI.start (ps : List TP) (qs : List P) : NrI ps qs 0 [] := ⟨Prt.nil _ (fun _ ⟨_, hx, _⟩ => by simp at hx), Nat.zero_le _⟩
theorem NrI.same {ps : List TP} {qs : List P} {k : Nat} {N : List TP} (h : NrI ps qs (k + 1) N) (hk : k + 1 < qs.length) (he : qs[k].r = qs[k + 1].r) : NrI ps qs (k + 1 + 1) N :=
  ⟨h.prt.congS fun s => seen_same hk he s, Nat.le_trans h.len (Nat.mul_le_mul_right _ (Nat.le_succ _))⟩
abbrev mkH (x : P) (p : Int × Int) : TP := ⟨x.h, x.r, p.1, p.2⟩
theorem tus_mkH (x : P) (L : List (Int × Int)) : tus (L.map (mkH x)) = L.map (mkT x.r) := by unfold tus; rw [List.map_map]; rfl
theorem NrI.step {ps : List TP} {qs : List P} {k : Nat} {N : List TP} {L : List (Int × Int)} {x : P} (h : NrI ps qs k N) (hs : Srtd (rows qs)) (hk : k < qs.length) (hx : qs[k] = x) (hn : k = 0 ∨ ∃ h : k - 1 < qs.length, qs[k - 1].r ≠ qs[k].r) (hL : IsLv (cov (prs (tus (ps.filter (sameR x.r))))) L) (hl : L.length ≤ 400 * 800) : NrI ps qs (k + 1) (N ++ L.map (mkH x)) := by
  subst hx
  refine ⟨?_, ?_⟩
  · rw [tus_app, tus_mkH]
    exact h.prt.step (fun s hs' => seen_lt hs hk hn s hs') ⟨hL.srt, hL.lam, fun t => by rw [hL.cnt, cov_group]⟩ fun s => seen_next hk s
  · rw [List.length_append, List.length_map, Nat.succ_mul]
    have := h.len
    omega
theorem NrI.fin {ps : List TP} {qs : List P} {k : Nat} {N : List TP} (h : NrI ps qs k N) (hk : qs.length ≤ k) (hp : qs.Perm (ps.map TP.row)) : IsNf (ats (tus ps)) (tus N) := by
  refine h.prt.done fun r t hr => ats_none (fun y hy e => hr ?_) t
  obtain ⟨z, hz, rfl⟩ := List.mem_map.1 hy
  refine ⟨z.row, ?_, e⟩
  rw [List.take_of_length_le hk]
  exact hp.mem_iff.2 (List.mem_map.2 ⟨z, hz, rfl⟩)
def N1R (w : World) (ps : List TP) (u i : Value) (wr : World) : Prop := ∃ k : Nat, k ≤ ps.length ∧ i = .int .i64 k ∧ OwnG tP.e w wr u ((ps.take k).map TP.row)
def N2R (W : World) (ps : List TP) (qs : List P) (vo i : Value) (wr : World) : Prop := ∃ (k : Nat) (N : List TP), k ≤ qs.length ∧ i = .int .i64 k ∧ OwnG tT.e W wr vo N ∧ Hid (NrI ps qs k N) ∧ Hid (∀ p ∈ N, RdT W p)
def N3R (W : World) (ps : List TP) (r : R) (vo : Value) (N : List TP) (vg i : Value) (wr : World) : Prop := ∃ j : Nat, j ≤ ps.length ∧ i = .int .i64 j ∧ Duo tT.e tT.e W wr vo vg N ((ps.take j).filter (sameR r))
def N4R (W : World) (L : List (Int × Int)) (x : P) (N : List TP) (v6 vn i : Value) (wr : World) : Prop := ∃ k : Nat, k ≤ L.length ∧ i = .int .i64 k ∧ Duo tT.e tPe.e W wr vn v6 (N ++ (L.take k).map (mkH x)) L
def NzQ (ps : List TP) (w : World) (e : Ending) (w' : World) : Prop := ∃ v' qs, e = .returned v' ∧ RdG w' v' qs ∧ RdTs w' qs ∧ IsNf (ats (tus ps)) (tus qs) ∧ Ext w w'
end Go.Proofs.YtnckdopphimgoaaGreat
