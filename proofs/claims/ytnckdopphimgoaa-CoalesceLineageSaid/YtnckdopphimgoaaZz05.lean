/- Bags of rows in plain lists: order, sorted lists, counts, surplus. -/
import Derived.Test.YtnckdopphimgoaaZz04
namespace Go.Proofs.Ytnckdopphimgoaa

structure R where
  v : List V
  t : List Int
deriving DecidableEq
instance : Inhabited R := ⟨⟨[], []⟩⟩

/-- a total order, told by -1, 0 and 1 -/
structure Ord3 {α : Type} (c : α → α → Int) : Prop where
  vals : ∀ a b, c a b = -1 ∨ c a b = 0 ∨ c a b = 1
  zero : ∀ a b, c a b = 0 ↔ a = b
  swap : ∀ a b, c b a = - c a b
  trans : ∀ a b d, c a b = -1 → c b d = -1 → c a d = -1
def lexC {α : Type} (c : α → α → Int) : List α → List α → Int
  | [], [] => 0
  | [], _ :: _ => -1
  | _ :: _, [] => 1
  | a :: x, b :: y => if c a b = 0 then lexC c x y else c a b
section
variable {α : Type} {c : α → α → Int}
theorem lx_vals (h : Ord3 c) : ∀ a b : List α, lexC c a b = -1 ∨ lexC c a b = 0 ∨ lexC c a b = 1
  | [], [] => by simp [lexC]
  | [], _ :: _ => by simp [lexC]
  | _ :: _, [] => by simp [lexC]
  | x :: a, y :: b => by
    have := lx_vals h a b
    have h := h.vals x y
    unfold lexC
    split
    · exact this
    · exact h
theorem lx_zero (h : Ord3 c) : ∀ a b : List α, lexC c a b = 0 ↔ a = b
  | [], [] => by simp [lexC]
  | [], _ :: _ => by simp [lexC]
  | _ :: _, [] => by simp [lexC]
  | x :: a, y :: b => by
    have := lx_zero h a b
    have h := h.zero x y
    unfold lexC
    by_cases e : c x y = 0
    · rw [if_pos e, this, h.1 e]; simp
    · rw [if_neg e]; simp; exact ⟨fun z => absurd z e, fun z => absurd (h.2 z.1) e⟩
theorem lx_swap (h : Ord3 c) : ∀ a b : List α, lexC c b a = - lexC c a b
  | [], [] => by simp [lexC]
  | [], _ :: _ => by simp [lexC]
  | _ :: _, [] => by simp [lexC]
  | x :: a, y :: b => by
    have := lx_swap h a b
    have h := h.swap x y
    unfold lexC
    by_cases e : c x y = 0
    · rw [if_pos e, if_pos (by omega), this]
    · rw [if_neg e, if_neg (by omega), h]
theorem lx_trans (h : Ord3 c) : ∀ a b d : List α, lexC c a b = -1 → lexC c b d = -1 → lexC c a d = -1
  | _, [], [] => by simp [lexC]
  | [], [], _ :: _ => by simp [lexC]
  | _ :: _, [], _ :: _ => by simp [lexC]
  | [], _ :: _, [] => by simp [lexC]
  | [], _ :: _, _ :: _ => by simp [lexC]
  | _ :: _, _ :: _, [] => by simp [lexC]
  | x :: a, y :: b, z :: d => by
    have ih := lx_trans h a b d
    unfold lexC
    intro h1 h2
    by_cases e1 : c x y = 0
    · have e := (h.zero x y).1 e1
      subst e
      rw [if_pos e1] at h1
      by_cases e2 : c x z = 0
      · rw [if_pos e2] at h2 ⊢; exact ih h1 h2
      · rw [if_neg e2] at h2 ⊢; exact h2
    · rw [if_neg e1] at h1
      by_cases e2 : c y z = 0
      · have e := (h.zero y z).1 e2
        subst e
        rw [if_neg e1]; exact h1
      · rw [if_neg e2] at h2
        have := h.trans x y z h1 h2
        rw [if_neg (by omega)]; exact this
theorem lx_ord (h : Ord3 c) : Ord3 (lexC c) := ⟨lx_vals h, lx_zero h, lx_swap h, lx_trans h⟩
/-- equal so far -/
theorem lx_at (h : Ord3 c) (a b : List α) (k : Nat) (ha : k < a.length) (hb : k < b.length) (e : a.take k = b.take k) : lexC c a b = if c a[k] b[k] = 0 then lexC c (a.drop (k + 1)) (b.drop (k + 1)) else c a[k] b[k] := by
  induction k generalizing a b with
  | zero =>
    obtain ⟨x, a, rfl⟩ := List.exists_cons_of_length_pos ha
    obtain ⟨y, b, rfl⟩ := List.exists_cons_of_length_pos hb
    simp [lexC]
  | succ k ih =>
    obtain ⟨x, a, rfl⟩ := List.exists_cons_of_length_pos (show 0 < a.length by omega)
    obtain ⟨y, b, rfl⟩ := List.exists_cons_of_length_pos (show 0 < b.length by omega)
    simp only [List.take_succ_cons, List.cons.injEq] at e
    obtain ⟨rfl, e⟩ := e
    have := ih a b (by simpa using ha) (by simpa using hb) e
    simp only [List.getElem_cons_succ, List.drop_succ_cons]
    rw [← this, lexC, if_pos ((h.zero x x).2 rfl)]
theorem lx_end (h : Ord3 c) (a b : List α) (k : Nat) (ha : k ≤ a.length) (hb : k ≤ b.length) (e : a.take k = b.take k) (he : k = a.length ∨ k = b.length) : lexC c a b = if a.length < b.length then -1 else if b.length < a.length then 1 else 0 := by
  induction k generalizing a b with
  | zero => cases a <;> cases b <;> simp [lexC] at *
  | succ k ih =>
    obtain ⟨x, a, rfl⟩ := List.exists_cons_of_length_pos (show 0 < a.length by omega)
    obtain ⟨y, b, rfl⟩ := List.exists_cons_of_length_pos (show 0 < b.length by omega)
    simp only [List.take_succ_cons, List.cons.injEq] at e
    obtain ⟨rfl, e⟩ := e
    have := ih a b (by simpa using ha) (by simpa using hb) e (by simpa using he)
    rw [lexC, if_pos ((h.zero x x).2 rfl), this]
    simp
theorem lx_next (h : Ord3 c) (a b : List α) (k : Nat) (ha : k < a.length) (hb : k < b.length) (e : a.take k = b.take k) (hz : c a[k] b[k] = 0) : a.take (k + 1) = b.take (k + 1) := by
  rw [List.take_succ_eq_append_getElem ha, List.take_succ_eq_append_getElem hb, e, (h.zero _ _).1 hz]
end
theorem cv_ord : Ord3 cmpV := ⟨cv_vals, cv_zero, cv_swap, cv_trans⟩
theorem ci_ord : Ord3 Lib.compareInt := by
  refine ⟨fun a b => ?_, fun a b => ?_, fun a b => ?_, fun a b d h k => ?_⟩
  · have := ci_vals a b; omega
  · have := ci_vals a b; constructor <;> intro h <;> omega
  · have := ci_vals a b; have := ci_vals b a; omega
  · have := ci_vals a b; have := ci_vals b d; have := ci_vals a d; omega
theorem cr_lex : ∀ a b : List V, cmpR a b = lexC cmpV a b
  | [], [] => rfl
  | [], _ :: _ => rfl
  | _ :: _, [] => rfl
  | x :: a, y :: b => by unfold cmpR lexC; rw [cr_lex a b]
theorem cr_ord : Ord3 cmpR := by
  have : cmpR = lexC cmpV := funext fun a => funext fun b => cr_lex a b
  rw [this]; exact lx_ord cv_ord
def cmpN : List Int → List Int → Int := lexC Lib.compareInt
theorem cn_ord : Ord3 cmpN := lx_ord ci_ord
/-- the canonical order of rows -/
def cmpW (x y : R) : Int := if cmpR x.v y.v = 0 then cmpN x.t y.t else cmpR x.v y.v
theorem cw_ord : Ord3 cmpW := by
  refine ⟨fun a b => ?_, fun a b => ?_, fun a b => ?_, fun a b d h k => ?_⟩
  · unfold cmpW; split
    · exact cn_ord.vals _ _
    · exact cr_ord.vals _ _
  · obtain ⟨av, at'⟩ := a
    obtain ⟨bv, bt⟩ := b
    have h1 := cr_ord.zero av bv
    have h2 := cn_ord.zero at' bt
    unfold cmpW
    simp only [R.mk.injEq]
    by_cases e : cmpR av bv = 0
    · rw [if_pos e, h2]; exact ⟨fun h => ⟨h1.1 e, h⟩, fun h => h.2⟩
    · rw [if_neg e]; exact ⟨fun h => absurd h e, fun h => absurd (h1.2 h.1) e⟩
  · unfold cmpW
    have h1 := cr_ord.swap a.v b.v
    have h2 := cn_ord.swap a.t b.t
    by_cases e : cmpR a.v b.v = 0
    · rw [if_pos e, if_pos (by omega), h2]
    · rw [if_neg e, if_neg (by omega), h1]
  · unfold cmpW at *
    by_cases e1 : cmpR a.v b.v = 0
    · rw [if_pos e1] at h
      have e := (cr_ord.zero _ _).1 e1
      rw [e]
      by_cases e2 : cmpR b.v d.v = 0
      · rw [if_pos e2] at k ⊢; exact cn_ord.trans _ _ _ h k
      · rw [if_neg e2] at k ⊢; exact k
    · rw [if_neg e1] at h
      by_cases e2 : cmpR b.v d.v = 0
      · have e := (cr_ord.zero _ _).1 e2
        rw [← e, if_neg e1]; exact h
      · rw [if_neg e2] at k
        have := cr_ord.trans _ _ _ h k
        rw [if_neg (by omega)]; exact this
theorem Ord3.le_trans {α : Type} {c : α → α → Int} (h : Ord3 c) {a b d : α} (h1 : c a b ≤ 0) (h2 : c b d ≤ 0) : c a d ≤ 0 := by
  rcases h.vals a b with x | x | x <;> rcases h.vals b d with y | y | y
  all_goals first
    | (have := h.trans a b d x y; omega)
    | (have e := (h.zero b d).1 y; subst e; exact h1)
    | (have e := (h.zero a b).1 x; subst e; exact h2)
    | omega
/-- sorted -/
def Srtd (l : List R) : Prop := l.Pairwise fun x y => cmpW x y ≤ 0
theorem srtd_unique : ∀ a b : List R, a.Perm b → Srtd a → Srtd b → a = b
  | [], b, h, _, _ => by rw [List.Perm.nil_eq h]
  | x :: a, [], h, _, _ => by have := h.length_eq; simp at this
  | x :: a, y :: b, h, ha, hb => by
    obtain ⟨ha1, ha2⟩ := List.pairwise_cons.1 ha
    obtain ⟨hb1, hb2⟩ := List.pairwise_cons.1 hb
    have hxy : x = y := by
      have h1 : x ∈ y :: b := h.mem_iff.1 (by simp)
      have h2 : y ∈ x :: a := h.mem_iff.2 (by simp)
      rcases List.mem_cons.1 h1 with e | e
      · exact e
      · rcases List.mem_cons.1 h2 with f | f
        · exact f.symm
        · have h3 := hb1 x e
          have h4 := ha1 y f
          have h5 := cw_ord.swap x y
          exact (cw_ord.zero x y).1 (by omega)
    subst hxy
    rw [srtd_unique a b ((List.perm_cons x).1 h) ha2 hb2]
def leW (x y : R) : Bool := decide (cmpW x y ≤ 0)
def sortR (l : List R) : List R := l.mergeSort leW
theorem sortR_perm (l : List R) : (sortR l).Perm l := List.mergeSort_perm _ _
theorem sortR_srtd (l : List R) : Srtd (sortR l) := by
  have := List.pairwise_mergeSort (le := leW) (by
    intro a b d h1 h2
    unfold leW at *
    simp only [decide_eq_true_eq] at *
    exact cw_ord.le_trans h1 h2) (by
    intro a b
    unfold leW
    simp only [Bool.or_eq_true, decide_eq_true_eq]
    have := cw_ord.swap a b
    omega) l
  exact this.imp fun h => by unfold leW at h; simpa using h
theorem sortR_len (l : List R) : (sortR l).length = l.length := (sortR_perm l).length_eq
theorem sortR_of {l m : List R} (h : m.Perm l) (hs : Srtd m) : m = sortR l := srtd_unique _ _ (h.trans (sortR_perm l).symm) hs (sortR_srtd l)
theorem sortR_eq {l m : List R} : sortR l = sortR m ↔ l.Perm m :=
  ⟨fun h => (sortR_perm l).symm.trans ((List.Perm.of_eq h).trans (sortR_perm m)), fun h => srtd_unique _ _ ((sortR_perm l).trans (h.trans (sortR_perm m).symm)) (sortR_srtd l) (sortR_srtd m)⟩
theorem sortR_self {l : List R} (h : Srtd l) : sortR l = l := (sortR_of (List.Perm.refl l) h).symm
/-- how many rows have these values -/
def cnt (l : List R) (v : List V) : Nat := l.countP fun r => decide (r.v = v)
theorem cnt_cons (x : R) (l : List R) (v : List V) : cnt (x :: l) v = cnt l v + (if x.v = v then 1 else 0) := by
  unfold cnt; rw [List.countP_cons]; simp
theorem cnt_app (l m : List R) (v : List V) : cnt (l ++ m) v = cnt l v + cnt m v := by unfold cnt; rw [List.countP_append]
theorem cnt_perm {l m : List R} (h : l.Perm m) (v : List V) : cnt l v = cnt m v := h.countP_eq _
theorem cnt_le (l : List R) (v : List V) : cnt l v ≤ l.length := List.countP_le_length
theorem cnt_zero {l : List R} {v : List V} (h : ∀ x ∈ l, x.v ≠ v) : cnt l v = 0 := by
  unfold cnt; rw [List.countP_eq_zero]; intro x hx; simpa using h x hx
theorem cnt_pos {l : List R} {x : R} (h : x ∈ l) : 0 < cnt l x.v := by
  unfold cnt; rw [List.countP_pos_iff]; exact ⟨x, h, by simp⟩
/-- what is left of the rows when the first f v of each list of values v are taken away -/
def sur : (List V → Nat) → List R → List R
  | _, [] => []
  | f, x :: l => if f x.v = 0 then x :: sur f l else sur (fun u => if u = x.v then f u - 1 else f u) l
theorem sur_cong (l : List R) : ∀ f g : List V → Nat, (∀ x ∈ l, f x.v = g x.v) → sur f l = sur g l := by
  induction l with
  | nil => intro f g _; rfl
  | cons x l ih =>
    intro f g h
    have hx := h x (by simp)
    unfold sur
    rw [hx]
    by_cases e : g x.v = 0
    · rw [if_pos e, if_pos e, ih f g fun y hy => h y (by simp [hy])]
    · rw [if_neg e, if_neg e]
      refine ih _ _ fun y hy => ?_
      have := h y (by simp [hy])
      simp only [this]
theorem sur_zero (l : List R) (f : List V → Nat) (h : ∀ x ∈ l, f x.v = 0) : sur f l = l := by
  induction l with
  | nil => rfl
  | cons x l ih => unfold sur; rw [if_pos (h x (by simp)), ih fun y hy => h y (by simp [hy])]
theorem sur_cnt (v : List V) (l : List R) : ∀ f : List V → Nat, cnt (sur f l) v = cnt l v - f v := by
  induction l with
  | nil => intro f; simp [sur, cnt]
  | cons x l ih =>
    intro f
    unfold sur
    rw [cnt_cons]
    by_cases e : f x.v = 0
    · rw [if_pos e, cnt_cons, ih]
      by_cases e2 : x.v = v
      · subst e2; rw [if_pos rfl, e]; omega
      · rw [if_neg e2]; omega
    · rw [if_neg e, ih]
      by_cases e2 : x.v = v
      · subst e2; rw [if_pos rfl, if_pos rfl]; omega
      · rw [if_neg e2, if_neg (fun h => e2 h.symm)]; omega
theorem sur_len (l : List R) : ∀ f : List V → Nat, (sur f l).length ≤ l.length := by
  induction l with
  | nil => intro f; simp [sur]
  | cons x l ih =>
    intro f
    unfold sur
    split
    · have := ih f; simp; omega
    · have := ih (fun u => if u = x.v then f u - 1 else f u); simp; omega
/-- by values alone -/
def SrtV (l : List R) : Prop := l.Pairwise fun x y => cmpR x.v y.v ≤ 0
theorem Srtd.vals {l : List R} (h : Srtd l) : SrtV l := h.imp fun {x y} h => by
  unfold cmpW at h
  have := cr_ord.vals x.v y.v
  split at h
  · omega
  · exact h
theorem lt_ne {x y : R} (h : cmpR x.v y.v = -1) : x.v ≠ y.v := fun e => by have := (cr_ord.zero x.v y.v).2 e; omega
theorem lt_all {x y : R} {b : List R} (h : cmpR x.v y.v = -1) (hb : SrtV (y :: b)) : ∀ z ∈ y :: b, z.v ≠ x.v := by
  obtain ⟨h1, h2⟩ := List.pairwise_cons.1 hb
  intro z hz
  rcases List.mem_cons.1 hz with rfl | hz
  · exact fun e => lt_ne h e.symm
  · intro e
    have h3 := h1 z hz
    rw [e] at h3
    have h4 := cr_ord.swap x.v y.v
    omega
theorem sur_lt {x y : R} {a b : List R} (h : cmpR x.v y.v = -1) (hb : SrtV (y :: b)) : sur (cnt (y :: b)) (x :: a) = x :: sur (cnt (y :: b)) a := by
  have hz : cnt (y :: b) x.v = 0 := cnt_zero (lt_all h hb)
  rw [sur, if_pos hz]
theorem sur_lt' {x y : R} {a b : List R} (h : cmpR x.v y.v = -1) (hb : SrtV (y :: b)) : sur (cnt (x :: a)) (y :: b) = sur (cnt a) (y :: b) :=
  sur_cong _ _ _ fun z hz => by rw [cnt_cons, if_neg (fun e => lt_all h hb z hz e.symm)]; rfl
theorem sur_same {x y : R} {a b : List R} (h : x.v = y.v) : sur (cnt (y :: b)) (x :: a) = sur (cnt b) a := by
  rw [sur, if_neg (by rw [cnt_cons, if_pos h.symm]; omega)]
  refine sur_cong _ _ _ fun z _ => ?_
  rw [cnt_cons, ← h]
  by_cases e : z.v = x.v
  · rw [if_pos e, if_pos e.symm]; omega
  · rw [if_neg e, if_neg (fun h => e h.symm)]; omega
theorem sur_group (v : List V) (rest : List R) (hr : ∀ x ∈ rest, x.v ≠ v) (g : List R) (hg : ∀ x ∈ g, x.v = v) : ∀ f : List V → Nat, sur f (g ++ rest) = g.drop (f v) ++ sur f rest := by
  induction g with
  | nil => intro f; simp
  | cons x g ih =>
    intro f
    have hx := hg x (by simp)
    have ih := ih fun y hy => hg y (by simp [hy])
    rw [List.cons_append, sur, hx]
    by_cases e : f v = 0
    · rw [if_pos e, ih, e]; simp
    · rw [if_neg e, ih]
      have hc : sur (fun u => if u = v then f u - 1 else f u) rest = sur f rest := sur_cong _ _ _ fun y hy => by rw [if_neg (hr y hy)]
      rw [hc, if_pos rfl]
      congr 1
      obtain ⟨k, hk⟩ : ∃ k, f v = k + 1 := ⟨f v - 1, by omega⟩
      rw [hk]; rfl
theorem perm_cnt {a b : List R} : (a.map R.v).Perm (b.map R.v) ↔ ∀ v, cnt a v = cnt b v := by
  rw [List.perm_iff_count]
  refine forall_congr' fun v => ?_
  have h : ∀ l : List R, (l.map R.v).count v = cnt l v := fun l => by
    unfold cnt List.count
    rw [List.countP_map]
    congr 1
    funext r
    simp only [Function.comp]
    exact Bool.eq_iff_iff.2 (by simp)
  rw [h, h]
end Go.Proofs.Ytnckdopphimgoaa
