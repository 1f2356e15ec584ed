/- Tuples in plain lists: timeslices, the normal form by what holds at each point, its uniqueness. -/
import Derived.Test.YtnckdopphimgoaaZz05
import Derived.Test.YtnckdopphimgoaaZz08
namespace Go.Proofs.Ytnckdopphimgoaa

/-- a row that holds from a to b -/
structure Tu where
  r : R
  a : Int
  b : Int
deriving DecidableEq
/-- the periods of one row -/
def per (l : List Tu) (r : R) : List (Int × Int) := (l.filter fun x => decide (x.r = r)).map fun x => (x.a, x.b)
theorem per_cons (x : Tu) (l : List Tu) (r : R) : per (x :: l) r = if x.r = r then (x.a, x.b) :: per l r else per l r := by
  unfold per
  by_cases c : x.r = r
  · rw [List.filter_cons_of_pos (by simpa using c), if_pos c]; rfl
  · rw [List.filter_cons_of_neg (by simpa using c), if_neg c]
theorem per_app (l m : List Tu) (r : R) : per (l ++ m) r = per l r ++ per m r := by unfold per; rw [List.filter_append, List.map_append]
theorem per_perm {l m : List Tu} (h : l.Perm m) (r : R) : (per l r).Perm (per m r) := (h.filter _).map _
theorem per_mem {l : List Tu} {r : R} {p : Int × Int} : p ∈ per l r ↔ ⟨r, p.1, p.2⟩ ∈ l := by
  unfold per
  rw [List.mem_map]
  constructor
  · rintro ⟨x, hx, rfl⟩
    obtain ⟨h1, h2⟩ := List.mem_filter.1 hx
    have h2 : x.r = r := by simpa using h2
    subst h2; exact h1
  · intro h
    exact ⟨_, List.mem_filter.2 ⟨h, by simp⟩, rfl⟩
theorem per_count (x : Tu) (l : List Tu) : l.count x = (per l x.r).count (x.a, x.b) := by
  induction l with
  | nil => rfl
  | cons y l ih =>
    rw [per_cons, List.count_cons, ih]
    obtain ⟨yr, ya, yb⟩ := y
    obtain ⟨xr, xa, xb⟩ := x
    by_cases c : yr = xr
    · subst c
      rw [if_pos rfl, List.count_cons]
      congr 1
      by_cases d : ya = xa ∧ yb = xb
      · obtain ⟨rfl, rfl⟩ := d; simp
      · rw [if_neg (by simpa using d), if_neg (by simpa using d)]
    · rw [if_neg c, if_neg (by simp [c])]; rfl
/-- how often the row holds at the point -/
def ats (l : List Tu) (r : R) (t : Int) : Nat := cov (per l r) t
theorem ats_app (l m : List Tu) (r : R) (t : Int) : ats (l ++ m) r t = ats l r t + ats m r t := by unfold ats; rw [per_app, cov_app]
theorem ats_perm {l m : List Tu} (h : l.Perm m) (r : R) (t : Int) : ats l r t = ats m r t := cov_perm (per_perm h r) t
theorem ats_none {l : List Tu} {r : R} (h : ∀ x ∈ l, x.r ≠ r) (t : Int) : ats l r t = 0 := by
  have : per l r = [] := by
    unfold per
    rw [List.map_eq_nil_iff, List.filter_eq_nil_iff]
    intro x hx; simpa using h x hx
  unfold ats; rw [this]; rfl
theorem per_all {l : List Tu} {r : R} (h : ∀ x ∈ l, x.r = r) : per l r = l.map fun x => (x.a, x.b) := by
  unfold per
  rw [List.filter_eq_self.2 fun x hx => by simpa using h x hx]
/-- by rows, then by periods -/
def leT (x y : Tu) : Prop := cmpW x.r y.r < 0 ∨ (x.r = y.r ∧ leP2 (x.a, x.b) (y.a, y.b))
theorem leT_anti (x y : Tu) (h1 : leT x y) (h2 : leT y x) : x = y := by
  obtain ⟨xr, xa, xb⟩ := x
  obtain ⟨yr, ya, yb⟩ := y
  have hs := cw_ord.swap xr yr
  have hz := cw_ord.zero xr yr
  unfold leT leP2 at h1 h2
  simp only at h1 h2
  rcases h1 with h1 | ⟨rfl, h1⟩
  · rcases h2 with h2 | ⟨e, h2⟩
    · omega
    · have := hz.2 e.symm; omega
  · rcases h2 with h2 | ⟨_, h2⟩
    · have := hz.2 rfl; omega
    · have e1 : xa = ya := by omega
      have e2 : xb = yb := by omega
      rw [e1, e2]
/-- the normal form of what holds -/
structure IsNf (f : R → Int → Nat) (N : List Tu) : Prop where
  srt : N.Pairwise leT
  lam : ∀ r, Lam (per N r)
  cnt : ∀ r t, ats N r t = f r t
theorem IsNf.unique {f : R → Int → Nat} {N M : List Tu} (h : IsNf f N) (k : IsNf f M) : N = M := by
  refine sorted_unique leT_anti N M ?_ h.srt k.srt
  rw [List.perm_iff_count]
  intro x
  rw [per_count, per_count]
  exact (lam_unique _ _ _ rfl (h.lam x.r) (k.lam x.r) fun t => (h.cnt x.r t).trans (k.cnt x.r t).symm).count_eq _
theorem IsNf.self {f : R → Int → Nat} {N : List Tu} (h : IsNf f N) : IsNf (ats N) N := ⟨h.srt, h.lam, fun _ _ => rfl⟩
theorem IsNf.cong {f g : R → Int → Nat} {N : List Tu} (h : IsNf f N) (e : ∀ r t, f r t = g r t) : IsNf g N := ⟨h.srt, h.lam, fun r t => (h.cnt r t).trans (e r t)⟩
/-- two normal forms are equal exactly if the same holds everywhere -/
theorem nf_iff {f g : R → Int → Nat} {N M : List Tu} (h : IsNf f N) (k : IsNf g M) : N = M ↔ ∀ r t, f r t = g r t :=
  ⟨fun e r t => by rw [← h.cnt, ← k.cnt, e], fun e => h.unique (k.cong fun r t => (e r t).symm)⟩
/-- the normal form of some of the rows -/
structure Prt (f : R → Int → Nat) (S : R → Prop) (N : List Tu) : Prop where
  srt : N.Pairwise leT
  lam : ∀ r, Lam (per N r)
  inn : ∀ x ∈ N, S x.r
  yes : ∀ r t, S r → ats N r t = f r t
theorem Prt.nil (f : R → Int → Nat) {S : R → Prop} (h : ∀ r, ¬ S r) : Prt f S [] := ⟨List.Pairwise.nil, fun _ => Lam.nil, fun _ h => absurd h List.not_mem_nil, fun r _ hr => absurd hr (h r)⟩
def mkT (r : R) (p : Int × Int) : Tu := ⟨r, p.1, p.2⟩
theorem per_mk (r : R) (L : List (Int × Int)) : per (L.map (mkT r)) r = L := by
  rw [per_all fun x hx => by obtain ⟨p, _, rfl⟩ := List.mem_map.1 hx; rfl, List.map_map]
  exact List.map_id _
theorem per_mk' {r s : R} (h : s ≠ r) (L : List (Int × Int)) : per (L.map (mkT r)) s = [] := by
  unfold per
  rw [List.map_eq_nil_iff, List.filter_eq_nil_iff]
  intro x hx
  obtain ⟨p, _, rfl⟩ := List.mem_map.1 hx
  have h2 : ¬ r = s := fun e => h e.symm
  simp [mkT, h2]
theorem Prt.step {f : R → Int → Nat} {S S' : R → Prop} {N : List Tu} {r : R} {L : List (Int × Int)} (h : Prt f S N) (hr : ∀ s, S s → cmpW s r < 0) (hL : IsLv (f r) L) (hS : ∀ s, S' s ↔ (S s ∨ s = r)) : Prt f S' (N ++ L.map (mkT r)) := by
  have hno : ∀ x ∈ N, x.r ≠ r := fun x hx e => by
    have h1 := hr _ (h.inn x hx)
    have := (cw_ord.zero x.r r).2 e
    omega
  have hp0 : per N r = [] := by
    unfold per
    rw [List.map_eq_nil_iff, List.filter_eq_nil_iff]
    intro x hx; simpa using hno x hx
  refine ⟨List.pairwise_append.2 ⟨h.srt, ?_, fun x hx y hy => ?_⟩, fun s => ?_, fun x hx => ?_, fun s t hs => ?_⟩
  · rw [List.pairwise_map]
    exact hL.srt.imp fun hpq => Or.inr ⟨rfl, hpq⟩
  · obtain ⟨p, _, rfl⟩ := List.mem_map.1 hy
    exact Or.inl (hr _ (h.inn x hx))
  · rw [per_app]
    by_cases c : s = r
    · subst c; rw [hp0, per_mk]; exact hL.lam
    · rw [per_mk' c, List.append_nil]; exact h.lam s
  · rw [hS]
    rcases List.mem_append.1 hx with hx | hx
    · exact Or.inl (h.inn x hx)
    · obtain ⟨p, _, rfl⟩ := List.mem_map.1 hx; exact Or.inr rfl
  · have ho := ats_app N (L.map (mkT r)) s t
    rw [ho]
    by_cases c : s = r
    · subst c
      have h1 : ats N s t = 0 := by unfold ats; rw [hp0]; rfl
      have h2 : ats (L.map (mkT s)) s t = cov L t := by unfold ats; rw [per_mk]
      rw [h1, h2, hL.cnt, Nat.zero_add]
    · have h2 : ats (L.map (mkT r)) s t = 0 := by unfold ats; rw [per_mk' c]; rfl
      rw [h2, Nat.add_zero]
      rcases (hS s).1 hs with hs | hs
      · exact h.yes s t hs
      · exact absurd hs c
theorem Prt.done {f : R → Int → Nat} {S : R → Prop} {N : List Tu} (h : Prt f S N) (hf : ∀ r t, ¬ S r → f r t = 0) : IsNf f N := by
  refine ⟨h.srt, h.lam, fun r t => ?_⟩
  by_cases c : S r
  · exact h.yes r t c
  · rw [hf r t c, ats_none fun x hx e => c (by rw [← e]; exact h.inn x hx)]
theorem Prt.congS {f : R → Int → Nat} {S S' : R → Prop} {N : List Tu} (h : Prt f S N) (hS : ∀ s, S' s ↔ S s) : Prt f S' N :=
  ⟨h.srt, h.lam, fun x hx => (hS _).2 (h.inn x hx), fun r t hr => h.yes r t ((hS r).1 hr)⟩
/-- the rows that hold at the point, in canonical order -/
def sl (l : List Tu) (t : Int) : List R := sortR ((l.filter fun x => incB x.a x.b t).map Tu.r)
theorem sl_count (l : List Tu) (t : Int) (r : R) : ((l.filter fun x => incB x.a x.b t).map Tu.r).count r = ats l r t := by
  induction l with
  | nil => rfl
  | cons x l ih =>
    unfold ats at ih ⊢
    rw [per_cons]
    by_cases c : incB x.a x.b t = true
    · have e1 : List.filter (fun x : Tu => incB x.a x.b t) (x :: l) = x :: List.filter (fun x : Tu => incB x.a x.b t) l := List.filter_cons_of_pos c
      rw [e1, List.map_cons, List.count_cons, ih]
      by_cases d : x.r = r
      · rw [if_pos d, cov_cons, if_pos c, if_pos (by simpa using d)]
      · rw [if_neg d, if_neg (by simpa using d)]; rfl
    · have e1 : List.filter (fun x : Tu => incB x.a x.b t) (x :: l) = List.filter (fun x : Tu => incB x.a x.b t) l := List.filter_cons_of_neg c
      rw [e1, ih]
      by_cases d : x.r = r
      · rw [if_pos d, cov_cons, if_neg c]; rfl
      · rw [if_neg d]
theorem sl_eq {l m : List Tu} {t : Int} : sl l t = sl m t ↔ ∀ r, ats l r t = ats m r t := by
  unfold sl
  rw [sortR_eq, List.perm_iff_count]
  refine forall_congr' fun r => ?_
  rw [sl_count, sl_count]
theorem sl_nil {l : List Tu} {t : Int} (h : ∀ r, ats l r t = 0) : sl l t = [] := by
  have : sl l t = sl [] t := sl_eq.2 fun r => by rw [h r]; rfl
  rw [this]; unfold sl; simp [sortR]
theorem sl_len (l : List Tu) (t : Int) : (sl l t).length ≤ l.length := by
  unfold sl
  rw [sortR_len, List.length_map]
  exact List.length_filter_le _ _
/-- all periods -/
def prs (l : List Tu) : List (Int × Int) := l.map fun x => (x.a, x.b)
theorem per_prs {l : List Tu} {r : R} {p : Int × Int} (h : p ∈ per l r) : p ∈ prs l := List.mem_map.2 ⟨_, per_mem.1 h, rfl⟩
theorem ats_still {l : List Tu} {pts : List Int} (h : IsBd (prs l) pts) {p t : Int} (hp : p ≤ t) (hn : ∀ e ∈ pts, e ≤ p ∨ t < e) (r : R) : ats l r t = ats l r p := by
  refine cov_still hp fun q hq ho => ?_
  have h1 := hn q.1 ((h.mem _).2 ⟨q, per_prs hq, ho, Or.inl rfl⟩)
  have h2 := hn q.2 ((h.mem _).2 ⟨q, per_prs hq, ho, Or.inr rfl⟩)
  omega
theorem ats_before {l : List Tu} {pts : List Int} (h : IsBd (prs l) pts) {t : Int} (hn : ∀ e ∈ pts, t < e) (r : R) : ats l r t = 0 := by
  refine Nat.eq_zero_of_not_pos fun hpos => ?_
  obtain ⟨q, hq, hi⟩ := cov_pos.1 hpos
  have h1 := incB_yes.1 hi
  have := hn q.1 ((h.mem _).2 ⟨q, per_prs hq, h1.1, Or.inl rfl⟩)
  omega
/-- it is enough to look at the boundaries -/
theorem eqv_bd {l m : List Tu} {a b : List Int} (h : IsBd (prs l) a) (k : IsBd (prs m) b) (e : ∀ t ∈ a ++ b, sl l t = sl m t) : ∀ r t, ats l r t = ats m r t := by
  intro r t
  rcases last_of (a ++ b) t with h1 | ⟨p, hp, h1, h2⟩
  · rw [ats_before h (fun e he => h1 e (List.mem_append.2 (Or.inl he))) r, ats_before k (fun e he => h1 e (List.mem_append.2 (Or.inr he))) r]
  · rw [ats_still h h1 (fun e he => h2 e (List.mem_append.2 (Or.inl he))) r, ats_still k h1 (fun e he => h2 e (List.mem_append.2 (Or.inr he))) r]
    exact sl_eq.1 (e p hp) r
/-- a row of changes: each stays -/
def chg (v : List V) (k : Nat) : List Tu := (List.range k).map fun i : Nat => ⟨⟨v, [1 + (i : Int)]⟩, 3 * (i : Int), 3 * (i : Int) + 3⟩
def chg1 (v : List V) (k : Nat) : List Tu := (List.range k).map fun i : Nat => ⟨⟨v, [1]⟩, 3 * (i : Int), 3 * (i : Int) + 3⟩
theorem cmp_one (v : List V) (x y : Int) (h : x < y) : cmpW ⟨v, [x]⟩ ⟨v, [y]⟩ < 0 := by
  unfold cmpW
  simp only
  rw [if_pos ((cr_ord.zero v v).2 rfl)]
  unfold cmpN lexC
  have h1 : Lib.compareInt x y = -1 := by unfold Lib.compareInt; simp [h]
  rw [h1]; decide
theorem chg_nf (v : List V) (k : Nat) (hk : k ≤ 1000) : IsNf (ats (chg v k)) (chg v k) := by
  refine ⟨?_, fun r => ⟨fun p hp => ?_, fun p hp q hq => ?_⟩, fun _ _ => rfl⟩
  · unfold chg
    rw [List.pairwise_map]
    refine List.pairwise_lt_range.imp fun {a b : Nat} h => Or.inl (cmp_one v (1 + (a : Int)) (1 + (b : Int)) (by omega))
  · obtain ⟨i, hi, e⟩ := List.mem_map.1 (per_mem.1 hp)
    have hi := List.mem_range.1 hi
    simp only [Tu.mk.injEq] at e
    unfold okP
    omega
  · obtain ⟨i, hi, e⟩ := List.mem_map.1 (per_mem.1 hp)
    obtain ⟨j, hj, e'⟩ := List.mem_map.1 (per_mem.1 hq)
    simp only [Tu.mk.injEq] at e e'
    obtain ⟨e1, e2, e3⟩ := e
    obtain ⟨e1', e2', e3'⟩ := e'
    rw [← e1', R.mk.injEq, List.cons.injEq] at e1
    unfold Nst
    omega
theorem chg1_at (v : List V) (r : R) (t : Int) (k : Nat) (hk : k ≤ 1000) : ats (chg1 v k) r t = if r = ⟨v, [1]⟩ ∧ 0 ≤ t ∧ t < 3 * (k : Int) then 1 else 0 := by
  induction k with
  | zero => rw [if_neg (by omega)]; exact ats_none (fun x hx => by simp [chg1] at hx) t
  | succ k ih =>
    have e : chg1 v (k + 1) = chg1 v k ++ [⟨⟨v, [1]⟩, 3 * (k : Int), 3 * (k : Int) + 3⟩] := by unfold chg1; rw [List.range_succ, List.map_append]; rfl
    rw [e, ats_app, ih (by omega)]
    unfold ats
    rw [per_cons]
    by_cases c : r = ⟨v, [1]⟩
    · subst c
      rw [if_pos rfl, cov_cons]
      have h0 : cov (per [] (⟨v, [1]⟩ : R)) t = 0 := rfl
      have hin : incB (3 * (k : Int)) (3 * (k : Int) + 3) t = true ↔ 3 * (k : Int) ≤ t ∧ t < 3 * (k : Int) + 3 := by rw [incB_yes]; omega
      simp only [hin, h0, true_and]
      split <;> split <;> split <;> omega
    · rw [if_neg (show ¬ (r = ⟨v, [1]⟩ ∧ 0 ≤ t ∧ t < 3 * (k : Int)) from fun h => c h.1), if_neg (show ¬ ((⟨⟨v, [1]⟩, 3 * (k : Int), 3 * (k : Int) + 3⟩ : Tu).r = r) from fun h => c h.symm), if_neg (fun h => c h.1)]; rfl
theorem chg1_nf (v : List V) (k : Nat) (hk : k ≤ 1000) (h0 : 0 < k) : IsNf (ats (chg1 v k)) [⟨⟨v, [1]⟩, 0, 3 * (k : Int)⟩] := by
  refine ⟨List.pairwise_singleton _ _, fun r => ⟨fun p hp => ?_, fun p hp q hq => ?_⟩, fun r t => ?_⟩
  · have := List.mem_singleton.1 (per_mem.1 hp)
    simp only [Tu.mk.injEq] at this
    unfold okP; omega
  · have h1 := List.mem_singleton.1 (per_mem.1 hp)
    have h2 := List.mem_singleton.1 (per_mem.1 hq)
    simp only [Tu.mk.injEq] at h1 h2
    unfold Nst; omega
  · rw [chg1_at v r t k hk]
    unfold ats
    rw [per_cons]
    by_cases c : r = ⟨v, [1]⟩
    · subst c
      rw [if_pos rfl, cov_cons]
      have h0' : cov (per [] (⟨v, [1]⟩ : R)) t = 0 := rfl
      have hin : incB 0 (3 * (k : Int)) t = true ↔ 0 ≤ t ∧ t < 3 * (k : Int) := by rw [incB_yes]; omega
      simp only [hin, h0', true_and, Nat.zero_add]
    · rw [if_neg (fun h => c h.symm), if_neg (fun h => c h.1)]; rfl
end Go.Proofs.Ytnckdopphimgoaa
