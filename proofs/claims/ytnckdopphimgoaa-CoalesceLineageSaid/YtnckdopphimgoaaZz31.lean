/- The program's normalForm. -/
import Derived.Test.YtnckdopphimgoaaZz23
import Derived.Test.YtnckdopphimgoaaZz28
import Derived.Test.YtnckdopphimgoaaZz30
namespace Go.Proofs.Ytnckdopphimgoaa
open Go.ChangeShapes Go.WideShapes Go.ChangeAt Go.RowKit

/-- v[s:], «as» the walk leaves it -/
theorem rd_fromT {w : World} {g o n cap s : Nat} {l : List TP} (h : RdG w (.slice (some ⟨g, o, none⟩) n cap) l) (hs : s ≤ n) : RdG w (.slice (if cap = s then some ⟨g, o, none⟩ else some ⟨g, o + s * 4, none⟩) (n - s) (cap - s)) (l.drop s) := by
  by_cases hc : cap = s
  · rw [if_pos hc]
    have hl := h.len
    have hd : l.drop s = [] := List.drop_eq_nil_of_le (by omega)
    rw [hd]
    have hn : n = s := by omega
    subst hn hc
    rw [Nat.sub_self]
    exact ⟨_, 0, rfl, Nat.le_refl _, Nat.zero_le _, (fun _ => rfl), fun i h => by simp at h⟩
  · rw [if_neg hc]
    exact h.drop hs
abbrev mkP (x : TP) (p : Int × Int) : TP := ⟨x.h, x.r, p.1, p.2⟩
theorem tus_mk (x : TP) (L : List (Int × Int)) : tus (L.map (mkP x)) = L.map (mkT x.r) := by unfold tus; rw [List.map_map]; rfl
/-- what holds while the groups are worked off -/
structure NfI (T A rest N : List TP) : Prop where
  all : T = A ++ rest
  lt : ∀ x ∈ A, ∀ y ∈ rest, cmpW x.r y.r < 0
  prt : Prt (ats (tus T)) (fun r => ∃ x ∈ A, x.r = r) (tus N)
  len : N.length ≤ A.length
def SrtT (T : List TP) : Prop := T.Pairwise fun x y => cmpW x.r y.r ≤ 0
theorem NfI.start (T : List TP) : NfI T [] T [] := ⟨rfl, fun _ h => absurd h List.not_mem_nil, Prt.nil _ (fun _ ⟨_, hx, _⟩ => absurd hx List.not_mem_nil), Nat.le_refl _⟩
theorem NfI.step {T A rest N : List TP} {s : Nat} {L : List (Int × Int)} {x : TP} (hT : SrtT T) (h : NfI T A rest N) (h0 : 0 < rest.length) (hx : rest[0] = x) (hs : GsP rest s) (hL : IsLv (cov (prs (tus (rest.take s)))) L) (hl : L.length ≤ s) : NfI T (A ++ rest.take s) (rest.drop s) (N ++ L.map (mkP x)) := by
  have hr : ∀ y ∈ rest.take s, y.r = x.r := by
    intro y hy
    obtain ⟨j, hj, rfl⟩ := List.mem_iff_getElem.1 hy
    rw [List.length_take] at hj
    rw [List.getElem_take, ← hx]
    exact hs.same j (by omega) (by omega)
  have hrest : SrtT rest := (List.pairwise_append.1 (h.all ▸ hT : SrtT (A ++ rest))).2.1
  have hgt : ∀ y ∈ rest.drop s, cmpW x.r y.r < 0 := by
    intro y hy
    obtain ⟨j, hj, rfl⟩ := List.mem_iff_getElem.1 hy
    rw [List.length_drop] at hj
    rw [List.getElem_drop]
    have hne := hs.last (by omega)
    have h1 : cmpW x.r (rest[s]'(by omega)).r ≤ 0 := by
      have := List.pairwise_iff_getElem.1 hrest 0 s h0 (by omega) (by have := hs.pos; omega)
      rw [hx] at this; exact this
    have h1' : cmpW x.r (rest[s]'(by omega)).r ≠ 0 := fun e => hne (by rw [hx]; exact ((cw_ord.zero _ _).1 e).symm)
    by_cases e : j = 0
    · subst e; simp only [Nat.add_zero]; omega
    · have h2 := List.pairwise_iff_getElem.1 hrest s (s + j) (by omega) (by omega) (by omega)
      have h3 := cw_ord.le_trans h1 h2
      have hz : cmpW x.r (rest[s + j]'(by omega)).r ≠ 0 := fun e0 => by
        have e1 := (cw_ord.zero _ _).1 e0
        rw [← e1] at h2
        have := cw_ord.swap x.r (rest[s]'(by omega)).r
        omega
      omega
  have hx0 : x ∈ rest := by rw [← hx]; exact List.getElem_mem _
  have hcov : ∀ t, cov (prs (tus (rest.take s))) t = ats (tus T) x.r t := by
    intro t
    have e1 : T = A ++ (rest.take s ++ rest.drop s) := by rw [List.take_append_drop]; exact h.all
    rw [e1, tus_app, tus_app, ats_app, ats_app]
    rw [ats_none (l := tus A) fun y hy e => ?_, ats_none (l := tus (rest.drop s)) fun y hy e => ?_]
    · have hp : per (tus (rest.take s)) x.r = prs (tus (rest.take s)) := per_all fun y hy => by
        obtain ⟨z, hz, rfl⟩ := List.mem_map.1 hy
        exact hr z hz
      unfold ats
      rw [hp]; omega
    · obtain ⟨z, hz, rfl⟩ := List.mem_map.1 hy
      have h1 := hgt z hz
      have := (cw_ord.zero x.r z.r).2 e.symm
      omega
    · obtain ⟨z, hz, rfl⟩ := List.mem_map.1 hy
      have h1 := h.lt z hz x hx0
      have := (cw_ord.zero z.r x.r).2 e
      omega
  refine ⟨by rw [List.append_assoc, List.take_append_drop]; exact h.all, fun y hy z hz => ?_, ?_, ?_⟩
  · rcases List.mem_append.1 hy with hy | hy
    · exact h.lt y hy z (List.mem_of_mem_drop hz)
    · rw [hr y hy]; exact hgt z hz
  · rw [tus_app, tus_mk]
    refine h.prt.step (fun q ⟨y, hy, e⟩ => by rw [← e]; exact h.lt y hy x hx0) ⟨hL.srt, hL.lam, fun t => by rw [hL.cnt, hcov]⟩ fun q => ?_
    constructor
    · rintro ⟨y, hy, e⟩
      rcases List.mem_append.1 hy with hy | hy
      · exact Or.inl ⟨y, hy, e⟩
      · exact Or.inr (by rw [← e]; exact hr y hy)
    · rintro (⟨y, hy, e⟩ | e)
      · exact ⟨y, List.mem_append.2 (Or.inl hy), e⟩
      · refine ⟨x, List.mem_append.2 (Or.inr ?_), e.symm⟩
        rw [← hx, List.mem_iff_getElem]
        exact ⟨0, by rw [List.length_take]; have := hs.pos; omega, by rw [List.getElem_take]⟩
  · rw [List.length_append, List.length_append, List.length_map, List.length_take]
    have := h.len
    have := hs.le
    omega
theorem NfI.fin {T A N : List TP} (h : NfI T A [] N) : IsNf (ats (tus T)) (tus N) := by
  refine h.prt.done fun r t hr => ats_none (fun y hy e => hr ?_) t
  obtain ⟨z, hz, rfl⟩ := List.mem_map.1 hy
  have := h.all
  rw [List.append_nil] at this
  exact ⟨z, by rw [← this]; exact hz, e⟩
/-- what does not hold at all does not count -/
theorem ats_hold (ps : List TP) (r : R) (t : Int) : ats (tus (ps.filter okT)) r t = ats (tus ps) r t := by
  induction ps with
  | nil => rfl
  | cons p ps ih =>
    cases hk : okT p with
    | true =>
      rw [List.filter_cons_of_pos hk]
      have e1 := ats_app [p.tu] (tus (ps.filter okT)) r t
      have e2 := ats_app [p.tu] (tus ps) r t
      have e3 : tus (p :: ps.filter okT) = [p.tu] ++ tus (ps.filter okT) := rfl
      have e4 : tus (p :: ps) = [p.tu] ++ tus ps := rfl
      rw [e3, e4, e1, e2, ih]
    | false =>
      rw [List.filter_cons_of_neg (by rw [hk]; decide), ih]
      have e2 := ats_app [p.tu] (tus ps) r t
      have e4 : tus (p :: ps) = [p.tu] ++ tus ps := rfl
      rw [e4, e2]
      have : ats [p.tu] r t = 0 := by
        unfold ats
        rw [per_cons]
        have hi : incB p.a p.b t = false := by unfold incB; rw [show okV p.a p.b = false from hk]; rfl
        split
        · rw [cov_cons, if_neg (by rw [hi]; decide)]; rfl
        · rfl
      omega
end Go.Proofs.Ytnckdopphimgoaa
