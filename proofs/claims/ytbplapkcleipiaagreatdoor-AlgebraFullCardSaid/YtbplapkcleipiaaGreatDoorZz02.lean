/- Bags of rows in plain lists: order, sorted lists, counts, surplus. -/
import Derived.Test.YtbplapkcleipiaaGreatDoorRows
import Derived.WalkKit
import Derived.ProofKit
import Derived.OpenShut
import Derived.Lib.Hide
import Derived.Lib.SlicesCompact
import Derived.Below
import Derived.Test.YtbplapkcleipiaaGreatDoorZz01
namespace Go.Proofs.YtbplapkcleipiaaGreatDoor

structure R where
  v : List V
  t : List Int
deriving DecidableEq
instance : Inhabited R := ⟨⟨[], []⟩⟩

/-- a total order, told by -1, 0 and 1 -/
structure Ord3 {α : Type} (c : α → α → Int) : Prop where
  vals : ∀ a b, c a b = -1 ∨ c a b = 0 ∨ c a b = 1
  zero : ∀ a b, c a b = 0 ↔ a = b
  swap : ∀ a b, c b a = - c a b
  trans : ∀ a b d, c a b = -1 → c b d = -1 → c a d = -1
def lexC {α : Type} (c : α → α → Int) : List α → List α → Int
  | [], [] => 0
  | [], _ :: _ => -1
  | _ :: _, [] => 1
  | a :: x, b :: y => if c a b = 0 then lexC c x y else c a b
section
variable {α : Type} {c : α → α → Int}
theorem lx_vals (h : Ord3 c) : ∀ a b : List α, lexC c a b = -1 ∨ lexC c a b = 0 ∨ lexC c a b = 1
  | [], [] => by simp [lexC]
  | [], _ :: _ => by simp [lexC]
  | _ :: _, [] => by simp [lexC]
  | x :: a, y :: b => by
    have := lx_vals h a b
    have h := h.vals x y
    unfold lexC
    split
    · exact this
    · exact h
theorem lx_zero (h : Ord3 c) : ∀ a b : List α, lexC c a b = 0 ↔ a = b
  | [], [] => by simp [lexC]
  | [], _ :: _ => by simp [lexC]
  | _ :: _, [] => by simp [lexC]
  | x :: a, y :: b => by
    have := lx_zero h a b
    have h := h.zero x y
    unfold lexC
    by_cases e : c x y = 0
    · rw [if_pos e, this, h.1 e]; simp
    · rw [if_neg e]; simp; exact ⟨fun z => absurd z e, fun z => absurd (h.2 z.1) e⟩
theorem lx_swap (h : Ord3 c) : ∀ a b : List α, lexC c b a = - lexC c a b
  | [], [] => by simp [lexC]
  | [], _ :: _ => by simp [lexC]
  | _ :: _, [] => by simp [lexC]
  | x :: a, y :: b => by
    have := lx_swap h a b
    have h := h.swap x y
    unfold lexC
    by_cases e : c x y = 0
    · rw [if_pos e, if_pos (by omega), this]
    · rw [if_neg e, if_neg (by omega), h]
theorem lx_trans (h : Ord3 c) : ∀ a b d : List α, lexC c a b = -1 → lexC c b d = -1 → lexC c a d = -1
  | _, [], [] => by simp [lexC]
  | [], [], _ :: _ => by simp [lexC]
  | _ :: _, [], _ :: _ => by simp [lexC]
  | [], _ :: _, [] => by simp [lexC]
  | [], _ :: _, _ :: _ => by simp [lexC]
  | _ :: _, _ :: _, [] => by simp [lexC]
  | x :: a, y :: b, z :: d => by
    have ih := lx_trans h a b d
    unfold lexC
    intro h1 h2
    by_cases e1 : c x y = 0
    · have e := (h.zero x y).1 e1
      subst e
      rw [if_pos e1] at h1
      by_cases e2 : c x z = 0
      · rw [if_pos e2] at h2 ⊢; exact ih h1 h2
      · rw [if_neg e2] at h2 ⊢; exact h2
    · rw [if_neg e1] at h1
      by_cases e2 : c y z = 0
      · have e := (h.zero y z).1 e2
        subst e
        rw [if_neg e1]; exact h1
      · rw [if_neg e2] at h2
        have := h.trans x y z h1 h2
        rw [if_neg (by omega)]; exact this
theorem lx_ord (h : Ord3 c) : Ord3 (lexC c) := ⟨lx_vals h, lx_zero h, lx_swap h, lx_trans h⟩
/-- equal so far -/
theorem lx_at (h : Ord3 c) (a b : List α) (k : Nat) (ha : k < a.length) (hb : k < b.length) (e : a.take k = b.take k) : lexC c a b = if c a[k] b[k] = 0 then lexC c (a.drop (k + 1)) (b.drop (k + 1)) else c a[k] b[k] := by
  induction k generalizing a b with
  | zero =>
    obtain ⟨x, a, rfl⟩ := List.exists_cons_of_length_pos ha
    obtain ⟨y, b, rfl⟩ := List.exists_cons_of_length_pos hb
    simp [lexC]
  | succ k ih =>
    obtain ⟨x, a, rfl⟩ := List.exists_cons_of_length_pos (show 0 < a.length by omega)
    obtain ⟨y, b, rfl⟩ := List.exists_cons_of_length_pos (show 0 < b.length by omega)
    simp only [List.take_succ_cons, List.cons.injEq] at e
    obtain ⟨rfl, e⟩ := e
    have := ih a b (by simpa using ha) (by simpa using hb) e
    simp only [List.getElem_cons_succ, List.drop_succ_cons]
    rw [← this, lexC, if_pos ((h.zero x x).2 rfl)]
theorem lx_end (h : Ord3 c) (a b : List α) (k : Nat) (ha : k ≤ a.length) (hb : k ≤ b.length) (e : a.take k = b.take k) (he : k = a.length ∨ k = b.length) : lexC c a b = if a.length < b.length then -1 else if b.length < a.length then 1 else 0 := by
  induction k generalizing a b with
  | zero => cases a <;> cases b <;> simp [lexC] at *
  | succ k ih =>
    obtain ⟨x, a, rfl⟩ := List.exists_cons_of_length_pos (show 0 < a.length by omega)
    obtain ⟨y, b, rfl⟩ := List.exists_cons_of_length_pos (show 0 < b.length by omega)
    simp only [List.take_succ_cons, List.cons.injEq] at e
    obtain ⟨rfl, e⟩ := e
    have := ih a b (by simpa using ha) (by simpa using hb) e (by simpa using he)
    rw [lexC, if_pos ((h.zero x x).2 rfl), this]
    simp
theorem lx_next (h : Ord3 c) (a b : List α) (k : Nat) (ha : k < a.length) (hb : k < b.length) (e : a.take k = b.take k) (hz : c a[k] b[k] = 0) : a.take (k + 1) = b.take (k + 1) := by
  rw [List.take_succ_eq_append_getElem ha, List.take_succ_eq_append_getElem hb, e, (h.zero _ _).1 hz]
end
theorem cv_ord : Ord3 cmpV := ⟨cv_vals, cv_zero, cv_swap, cv_trans⟩
theorem ci_ord : Ord3 Lib.compareInt := by
  refine ⟨fun a b => ?_, fun a b => ?_, fun a b => ?_, fun a b d h k => ?_⟩
  · have := ci_vals a b; omega
  · have := ci_vals a b; constructor <;> intro h <;> omega
  · have := ci_vals a b; have := ci_vals b a; omega
  · have := ci_vals a b; have := ci_vals b d; have := ci_vals a d; omega
theorem cr_lex : ∀ a b : List V, cmpR a b = lexC cmpV a b
  | [], [] => rfl
  | [], _ :: _ => rfl
  | _ :: _, [] => rfl
  | x :: a, y :: b => by unfold cmpR lexC; rw [cr_lex a b]
theorem cr_ord : Ord3 cmpR := by
  have : cmpR = lexC cmpV := funext fun a => funext fun b => cr_lex a b
  rw [this]; exact lx_ord cv_ord
def cmpN : List Int → List Int → Int := lexC Lib.compareInt
theorem cn_ord : Ord3 cmpN := lx_ord ci_ord
/-- the canonical order of rows -/
def cmpW (x y : R) : Int := if cmpR x.v y.v = 0 then cmpN x.t y.t else cmpR x.v y.v
theorem cw_ord : Ord3 cmpW := by
  refine ⟨fun a b => ?_, fun a b => ?_, fun a b => ?_, fun a b d h k => ?_⟩
  · unfold cmpW; split
    · exact cn_ord.vals _ _
    · exact cr_ord.vals _ _
  · obtain ⟨av, at'⟩ := a
    obtain ⟨bv, bt⟩ := b
    have h1 := cr_ord.zero av bv
    have h2 := cn_ord.zero at' bt
    unfold cmpW
    simp only [R.mk.injEq]
    by_cases e : cmpR av bv = 0
    · rw [if_pos e, h2]; exact ⟨fun h => ⟨h1.1 e, h⟩, fun h => h.2⟩
    · rw [if_neg e]; exact ⟨fun h => absurd h e, fun h => absurd (h1.2 h.1) e⟩
  · unfold cmpW
    have h1 := cr_ord.swap a.v b.v
    have h2 := cn_ord.swap a.t b.t
    by_cases e : cmpR a.v b.v = 0
    · rw [if_pos e, if_pos (by omega), h2]
    · rw [if_neg e, if_neg (by omega), h1]
  · unfold cmpW at *
    by_cases e1 : cmpR a.v b.v = 0
    · rw [if_pos e1] at h
      have e := (cr_ord.zero _ _).1 e1
      rw [e]
      by_cases e2 : cmpR b.v d.v = 0
      · rw [if_pos e2] at k ⊢; exact cn_ord.trans _ _ _ h k
      · rw [if_neg e2] at k ⊢; exact k
    · rw [if_neg e1] at h
      by_cases e2 : cmpR b.v d.v = 0
      · have e := (cr_ord.zero _ _).1 e2
        rw [← e, if_neg e1]; exact h
      · rw [if_neg e2] at k
        have := cr_ord.trans _ _ _ h k
        rw [if_neg (by omega)]; exact this
theorem Ord3.le_trans {α : Type} {c : α → α → Int} (h : Ord3 c) {a b d : α} (h1 : c a b ≤ 0) (h2 : c b d ≤ 0) : c a d ≤ 0 := by
  rcases h.vals a b with x | x | x <;> rcases h.vals b d with y | y | y
  all_goals first
    | (have := h.trans a b d x y; omega)
    | (have e := (h.zero b d).1 y; subst e; exact h1)
    | (have e := (h.zero a b).1 x; subst e; exact h2)
    | omega
/-- sorted -/
def Srtd (l : List R) : Prop := l.Pairwise fun x y => cmpW x y ≤ 0
theorem srtd_unique : ∀ a b : List R, a.Perm b → Srtd a → Srtd b → a = b
  | [], b, h, _, _ => by rw [List.Perm.nil_eq h]
  | x :: a, [], h, _, _ => by have := h.length_eq; simp at this
  | x :: a, y :: b, h, ha, hb => by
    obtain ⟨ha1, ha2⟩ := List.pairwise_cons.1 ha
    obtain ⟨hb1, hb2⟩ := List.pairwise_cons.1 hb
    have hxy : x = y := by
      have h1 : x ∈ y :: b := h.mem_iff.1 (by simp)
      have h2 : y ∈ x :: a := h.mem_iff.2 (by simp)
      rcases List.mem_cons.1 h1 with e | e
      · exact e
      · rcases List.mem_cons.1 h2 with f | f
        · exact f.symm
        · have h3 := hb1 x e
          have h4 := ha1 y f
          have h5 := cw_ord.swap x y
          exact (cw_ord.zero x y).1 (by omega)
    subst hxy
    rw [srtd_unique a b ((List.perm_cons x).1 h) ha2 hb2]
def leW (x y : R) : Bool := decide (cmpW x y ≤ 0)
def sortR (l : List R) : List R := l.mergeSort leW
theorem sortR_perm (l : List R) : (sortR l).Perm l := List.mergeSort_perm _ _
theorem sortR_srtd (l : List R) : Srtd (sortR l) := by
  have := List.pairwise_mergeSort (le := leW) (by
    intro a b d h1 h2
    unfold leW at *
    simp only [decide_eq_true_eq] at *
    exact cw_ord.le_trans h1 h2) (by
    intro a b
    unfold leW
    simp only [Bool.or_eq_true, decide_eq_true_eq]
    have := cw_ord.swap a b
    omega) l
  exact this.imp fun h => by unfold leW at h; simpa using h
theorem sortR_len (l : List R) : (sortR l).length = l.length := (sortR_perm l).length_eq
theorem sortR_of {l m : List R} (h : m.Perm l) (hs : Srtd m) : m = sortR l := srtd_unique _ _ (h.trans (sortR_perm l).symm) hs (sortR_srtd l)
theorem sortR_eq {l m : List R} : sortR l = sortR m ↔ l.Perm m :=
  ⟨fun h => (sortR_perm l).symm.trans ((List.Perm.of_eq h).trans (sortR_perm m)), fun h => srtd_unique _ _ ((sortR_perm l).trans (h.trans (sortR_perm m).symm)) (sortR_srtd l) (sortR_srtd m)⟩
theorem sortR_self {l : List R} (h : Srtd l) : sortR l = l := (sortR_of (List.Perm.refl l) h).symm
/-- how many rows have these values -/
def cnt (l : List R) (v : List V) : Nat := l.countP fun r => decide (r.v = v)
theorem cnt_cons (x : R) (l : List R) (v : List V) : cnt (x :: l) v = cnt l v + (if x.v = v then 1 else 0) := by
  unfold cnt; rw [List.countP_cons]; simp
theorem cnt_app (l m : List R) (v : List V) : cnt (l ++ m) v = cnt l v + cnt m v := by unfold cnt; rw [List.countP_append]
theorem cnt_perm {l m : List R} (h : l.Perm m) (v : List V) : cnt l v = cnt m v := h.countP_eq _
theorem cnt_le (l : List R) (v : List V) : cnt l v ≤ l.length := List.countP_le_length
theorem cnt_zero {l : List R} {v : List V} (h : ∀ x ∈ l, x.v ≠ v) : cnt l v = 0 := by
  unfold cnt; rw [List.countP_eq_zero]; intro x hx; simpa using h x hx
theorem cnt_pos {l : List R} {x : R} (h : x ∈ l) : 0 < cnt l x.v := by
  unfold cnt; rw [List.countP_pos_iff]; exact ⟨x, h, by simp⟩
/-- what is left of the rows when the first f v of each list of values v are taken away -/
def sur : (List V → Nat) → List R → List R
  | _, [] => []
  | f, x :: l => if f x.v = 0 then x :: sur f l else sur (fun u => if u = x.v then f u - 1 else f u) l
theorem sur_cong (l : List R) : ∀ f g : List V → Nat, (∀ x ∈ l, f x.v = g x.v) → sur f l = sur g l := by
  induction l with
  | nil => intro f g _; rfl
  | cons x l ih =>
    intro f g h
    have hx := h x (by simp)
    unfold sur
    rw [hx]
    by_cases e : g x.v = 0
    · rw [if_pos e, if_pos e, ih f g fun y hy => h y (by simp [hy])]
    · rw [if_neg e, if_neg e]
      refine ih _ _ fun y hy => ?_
      have := h y (by simp [hy])
      simp only [this]
theorem sur_zero (l : List R) (f : List V → Nat) (h : ∀ x ∈ l, f x.v = 0) : sur f l = l := by
  induction l with
  | nil => rfl
  | cons x l ih => unfold sur; rw [if_pos (h x (by simp)), ih fun y hy => h y (by simp [hy])]
theorem sur_cnt (v : List V) (l : List R) : ∀ f : List V → Nat, cnt (sur f l) v = cnt l v - f v := by
  induction l with
  | nil => intro f; simp [sur, cnt]
  | cons x l ih =>
    intro f
    unfold sur
    rw [cnt_cons]
    by_cases e : f x.v = 0
    · rw [if_pos e, cnt_cons, ih]
      by_cases e2 : x.v = v
      · subst e2; rw [if_pos rfl, e]; omega
      · rw [if_neg e2]; omega
    · rw [if_neg e, ih]
      by_cases e2 : x.v = v
      · subst e2; rw [if_pos rfl, if_pos rfl]; omega
      · rw [if_neg e2, if_neg (fun h => e2 h.symm)]; omega
theorem sur_len (l : List R) : ∀ f : List V → Nat, (sur f l).length ≤ l.length := by
  induction l with
  | nil => intro f; simp [sur]
  | cons x l ih =>
    intro f
    unfold sur
    split
    · have := ih f; simp; omega
    · have := ih (fun u => if u = x.v then f u - 1 else f u); simp; omega
/-- by values alone -/
def SrtV (l : List R) : Prop := l.Pairwise fun x y => cmpR x.v y.v ≤ 0
theorem Srtd.vals {l : List R} (h : Srtd l) : SrtV l := h.imp fun {x y} h => by
  unfold cmpW at h
  have := cr_ord.vals x.v y.v
  split at h
  · omega
  · exact h
theorem lt_ne {x y : R} (h : cmpR x.v y.v = -1) : x.v ≠ y.v := fun e => by have := (cr_ord.zero x.v y.v).2 e; omega
theorem lt_all {x y : R} {b : List R} (h : cmpR x.v y.v = -1) (hb : SrtV (y :: b)) : ∀ z ∈ y :: b, z.v ≠ x.v := by
  obtain ⟨h1, h2⟩ := List.pairwise_cons.1 hb
  intro z hz
  rcases List.mem_cons.1 hz with rfl | hz
  · exact fun e => lt_ne h e.symm
  · intro e
    have h3 := h1 z hz
    rw [e] at h3
    have h4 := cr_ord.swap x.v y.v
    omega
theorem sur_lt {x y : R} {a b : List R} (h : cmpR x.v y.v = -1) (hb : SrtV (y :: b)) : sur (cnt (y :: b)) (x :: a) = x :: sur (cnt (y :: b)) a := by
  have hz : cnt (y :: b) x.v = 0 := cnt_zero (lt_all h hb)
  rw [sur, if_pos hz]
theorem sur_lt' {x y : R} {a b : List R} (h : cmpR x.v y.v = -1) (hb : SrtV (y :: b)) : sur (cnt (x :: a)) (y :: b) = sur (cnt a) (y :: b) :=
  sur_cong _ _ _ fun z hz => by rw [cnt_cons, if_neg (fun e => lt_all h hb z hz e.symm)]; rfl
theorem sur_same {x y : R} {a b : List R} (h : x.v = y.v) : sur (cnt (y :: b)) (x :: a) = sur (cnt b) a := by
  rw [sur, if_neg (by rw [cnt_cons, if_pos h.symm]; omega)]
  refine sur_cong _ _ _ fun z _ => ?_
  rw [cnt_cons, ← h]
  by_cases e : z.v = x.v
  · rw [if_pos e, if_pos e.symm]; omega
  · rw [if_neg e, if_neg (fun h => e h.symm)]; omega
theorem sur_group (v : List V) (rest : List R) (hr : ∀ x ∈ rest, x.v ≠ v) (g : List R) (hg : ∀ x ∈ g, x.v = v) : ∀ f : List V → Nat, sur f (g ++ rest) = g.drop (f v) ++ sur f rest := by
  induction g with
  | nil => intro f; simp
  | cons x g ih =>
    intro f
    have hx := hg x (by simp)
    have ih := ih fun y hy => hg y (by simp [hy])
    rw [List.cons_append, sur, hx]
    by_cases e : f v = 0
    · rw [if_pos e, ih, e]; simp
    · rw [if_neg e, ih]
      have hc : sur (fun u => if u = v then f u - 1 else f u) rest = sur f rest := sur_cong _ _ _ fun y hy => by rw [if_neg (hr y hy)]
      rw [hc, if_pos rfl]
      congr 1
      obtain ⟨k, hk⟩ : ∃ k, f v = k + 1 := ⟨f v - 1, by omega⟩
      rw [hk]; rfl
theorem perm_cnt {a b : List R} : (a.map R.v).Perm (b.map R.v) ↔ ∀ v, cnt a v = cnt b v := by
  rw [List.perm_iff_count]
  refine forall_congr' fun v => ?_
  have h : ∀ l : List R, (l.map R.v).count v = cnt l v := fun l => by
    unfold cnt List.count
    rw [List.countP_map]
    congr 1
    funext r
    simp only [Function.comp]
    exact Bool.eq_iff_iff.2 (by simp)
  rw [h, h]
end Go.Proofs.YtbplapkcleipiaaGreatDoor
/- Small lemmas that every walk uses. -/
namespace Go.Proofs.YtbplapkcleipiaaGreatDoor
open Go.ChangeShapes Go.WideShapes Go.ChangeAt Go.RowKit

theorem ret_bool {a b : Bool} (h : a = b) : Ending.returned (.bool a) = .returned (.bool b) := by rw [h]
theorem ret_int {k : IntKind} {a b : Int} (h : a = b) : Ending.returned (.int k a) = .returned (.int k b) := by rw [h]
theorem grown_trans {a b c : World} (h : Grown a b) (k : Grown b c) : Grown a c :=
  ⟨World.keptBut_trans h.1 (World.keptBut_mono (fun _ f => f.elim) (World.keptBut_mono (fun _ f => f) k.1)), fun x => (k.2.1 x).trans (h.2.1 x), Nat.le_trans h.2.2 k.2.2⟩

end Go.Proofs.YtbplapkcleipiaaGreatDoor
/- Ascending lists of numbers: one list for one set. -/
namespace Go.Proofs.YtbplapkcleipiaaGreatDoor

def Asc (l : List Int) : Prop := l.Pairwise (· < ·)
theorem asc_unique : ∀ a b : List Int, Asc a → Asc b → (∀ c, c ∈ a ↔ c ∈ b) → a = b
  | [], [], _, _, _ => rfl
  | [], y :: b, _, _, h => absurd ((h y).2 (by simp)) (by simp)
  | x :: a, [], _, _, h => absurd ((h x).1 (by simp)) (by simp)
  | x :: a, y :: b, ha, hb, h => by
    obtain ⟨ha1, ha2⟩ := List.pairwise_cons.1 ha
    obtain ⟨hb1, hb2⟩ := List.pairwise_cons.1 hb
    have hxy : x = y := by
      have h1 := (h x).1 (by simp)
      have h2 := (h y).2 (by simp)
      rcases List.mem_cons.1 h1 with e | e
      · exact e
      · rcases List.mem_cons.1 h2 with f | f
        · exact f.symm
        · have := hb1 x e; have := ha1 y f; omega
    subst hxy
    rw [asc_unique a b ha2 hb2 fun c => ?_]
    constructor
    · intro hc
      rcases List.mem_cons.1 ((h c).1 (List.mem_cons_of_mem _ hc)) with e | e
      · have := ha1 c hc; omega
      · exact e
    · intro hc
      rcases List.mem_cons.1 ((h c).2 (List.mem_cons_of_mem _ hc)) with e | e
      · have := hb1 c hc; omega
      · exact e
end Go.Proofs.YtbplapkcleipiaaGreatDoor
/- A sorted list without its repetitions is ascending. -/
namespace Go.Proofs.YtbplapkcleipiaaGreatDoor

theorem cut_asc (d : Array Int) (hs : ∀ i j, i ≤ j → j < d.size → d[i]! ≤ d[j]!) : ∀ m, m ≤ d.size → Asc (Lib.compactUpTo d m) ∧ (∀ c, c ∈ Lib.compactUpTo d m ↔ ∃ j, j < m ∧ d[j]! = c)
  | 0, _ => by simp [Lib.compactUpTo, Asc]
  | m + 1, hm => by
    obtain ⟨h1, h2⟩ := cut_asc d hs m (by omega)
    rw [Lib.compactUpTo_succ]
    by_cases hz : 0 < m ∧ d[m]! = d[m - 1]!
    · rw [Lib.keeps_neg hz.1 hz.2]
      simp only [Bool.false_eq_true, if_false, List.append_nil]
      refine ⟨h1, fun c => (h2 c).trans ⟨fun ⟨j, hj, e⟩ => ⟨j, by omega, e⟩, fun ⟨j, hj, e⟩ => ?_⟩⟩
      by_cases hjm : j = m
      · subst hjm; exact ⟨j - 1, by omega, by rw [← hz.2]; exact e⟩
      · exact ⟨j, by omega, e⟩
    · have hk : Lib.keeps d m = true := by
        by_cases h0 : 0 < m
        · exact Lib.keeps_pos (fun e => hz ⟨h0, e⟩)
        · exact Lib.keeps_lt_one d m (by omega)
      rw [hk]
      simp only [if_true]
      constructor
      · refine List.pairwise_append.2 ⟨h1, by simp, fun x hx y hy => ?_⟩
        obtain ⟨j, hj, e⟩ := (h2 x).1 hx
        have hy' : y = d[m]! := by simpa using hy
        subst hy' e
        have a1 := hs j (m - 1) (by omega) (by omega)
        have a2 := hs (m - 1) m (by omega) (by omega)
        have a3 : d[m]! ≠ d[m - 1]! := fun e => hz ⟨by omega, e⟩
        omega
      · intro c
        rw [List.mem_append, h2 c]
        simp only [List.mem_singleton]
        constructor
        · rintro (⟨j, hj, e⟩ | e)
          · exact ⟨j, by omega, e⟩
          · exact ⟨m, by omega, e.symm⟩
        · rintro ⟨j, hj, e⟩
          by_cases hjm : j = m
          · subst hjm; exact Or.inr e.symm
          · exact Or.inl ⟨j, by omega, e⟩
theorem sort_cut (zs : List Int) : Asc (Lib.compact (zs.mergeSort fun x y => decide (x ≤ y))) ∧ (∀ c, c ∈ Lib.compact (zs.mergeSort fun x y => decide (x ≤ y)) ↔ c ∈ zs) := by
  have hp := List.mergeSort_perm zs (fun x y => decide (x ≤ y))
  have hs := List.pairwise_mergeSort (le := fun (x y : Int) => decide (x ≤ y)) (by intro a b c; simp; omega) (by intro a b; simp; omega) zs
  generalize zs.mergeSort (fun x y => decide (x ≤ y)) = ys at *
  have hm : ∀ i j, i ≤ j → j < ys.toArray.size → ys.toArray[i]! ≤ ys.toArray[j]! := by
    intro i j hij hj
    have hj' : j < ys.length := by simpa using hj
    by_cases e : i = j
    · subst e; exact Int.le_refl _
    · have := List.pairwise_iff_getElem.1 hs i j (by omega) hj' (by omega)
      simpa [show i < ys.length by omega, hj'] using this
  obtain ⟨h1, h2⟩ := cut_asc ys.toArray hm ys.length (by simp)
  refine ⟨h1, fun c => (h2 c).trans ((?_ : _ ↔ c ∈ ys).trans hp.mem_iff)⟩
  rw [List.mem_iff_getElem]
  constructor
  · rintro ⟨j, hj, e⟩; exact ⟨j, hj, by simpa [hj] using e⟩
  · rintro ⟨j, hj, e⟩; exact ⟨j, hj, by simpa [hj] using e⟩
end Go.Proofs.YtbplapkcleipiaaGreatDoor
/- Queries in plain lists: the columns of nodes, the rows of nodes. -/
namespace Go.Proofs.YtbplapkcleipiaaGreatDoor

/-- the first error, or all answers -/
def mapE {α β : Type} (f : α → β × Int) : List α → List β × Int
  | [] => ([], 0)
  | x :: l => if (f x).2 ≠ 0 then ([], (f x).2) else if (mapE f l).2 ≠ 0 then ([], (mapE f l).2) else ((f x).1 :: (mapE f l).1, 0)
theorem mapE_ok {α β : Type} (f : α → β × Int) : ∀ l : List α, (∀ x ∈ l, (f x).2 = 0) → mapE f l = (l.map fun x => (f x).1, 0)
  | [], _ => rfl
  | x :: l, h => by
    have h1 := h x (by simp)
    have h2 := mapE_ok f l fun y hy => h y (List.mem_cons_of_mem _ hy)
    unfold mapE
    rw [if_neg (by rw [h1]; simp), h2, if_neg (by simp)]; rfl
theorem mapE_bad {α β : Type} (f : α → β × Int) : ∀ (l : List α) (k : Nat) (h : k < l.length), (∀ i, (hi : i < k) → (f (l[i]'(by omega))).2 = 0) → (f l[k]).2 ≠ 0 → mapE f l = ([], (f l[k]).2)
  | [], k, h, _, _ => by simp at h
  | x :: l, 0, _, _, h => by unfold mapE; exact if_pos h
  | x :: l, k + 1, h, h1, h2 => by
    have h0 : (f x).2 = 0 := h1 0 (by omega)
    have ih := mapE_bad f l k (by simpa using h) (fun i hi => h1 (i + 1) (by omega)) h2
    unfold mapE
    rw [if_neg (by rw [h0]; simp), ih]; exact if_pos h2
theorem mapE_iff {α β : Type} (f : α → β × Int) : ∀ l : List α, (mapE f l).2 = 0 ↔ ∀ x ∈ l, (f x).2 = 0
  | [] => by simp [mapE]
  | x :: l => by
    have ih := mapE_iff f l
    unfold mapE
    by_cases h : (f x).2 = 0
    · rw [if_neg (by rw [h]; simp)]
      by_cases h2 : (mapE f l).2 = 0
      · rw [if_neg (by rw [h2]; simp)]; simp only [true_iff]; intro y hy
        rcases List.mem_cons.1 hy with rfl | hy
        · exact h
        · exact ih.1 h2 y hy
      · rw [if_pos h2]; simp only [h2, false_iff]; intro hh; exact h2 (ih.2 fun y hy => hh y (List.mem_cons_of_mem _ hy))
    · rw [if_pos h]; simp only [h, false_iff]; intro hh; exact h (hh x (by simp))

structure Nd where
  k : Int
  a : Int
  b : Int
  p : Int
  s : List UInt8
  ex : List Int
  ag : List (Int × Int)
instance : Inhabited Nd := ⟨⟨0, 0, 0, 0, [], [], []⟩⟩
structure Tt where
  s : List UInt8
  ks : List Int
instance : Inhabited Tt := ⟨⟨[], []⟩⟩

/- columns -/
/-- how many inputs an operator has; -1: there is no such operator -/
def inpN (k : Int) : Int := if k = 1 then 0 else if k = 2 ∨ k = 3 ∨ k = 9 ∨ k = 10 then 1 else if 4 ≤ k ∧ k ≤ 8 then 2 else -1
def atC (l : List (List Int)) (i : Int) : List Int := l.getD i.toNat []
def cmn : List Int → List Int → Option (List Int)
  | [], [] => some []
  | x :: a, y :: b => if y = x ∨ y = 0 then (cmn a b).map (x :: ·) else if x = 0 then (cmn a b).map (y :: ·) else none
  | _, _ => none
def cmnC (a b : List Int) : List Int × Int := match cmn a b with | some c => (c, 0) | none => ([], 7)
def scnC : List Tt → List UInt8 → List Int × Int
  | [], _ => ([], 8)
  | t :: l, s => if t.s = s then (t.ks, 0) else scnC l s
def prdC (es : List X) (p : Int) (cols : List Int) : List Int × Int := if (chkV es p cols).2 ≠ 0 then ([], (chkV es p cols).2) else if accB 3 (chkV es p cols).1 = true then (cols, 0) else ([], 7)
def typC (es : List X) (ex cols : List Int) : List Int × Int := mapE (fun x => chkV es x cols) ex
/-- the argument of an aggregate: its type, an error -/
def argC (es : List X) (cols : List Int) (g : Int × Int) : Int × Int := if g.1 = 1 then (0, 0) else if 2 ≤ g.1 ∧ g.1 ≤ 4 then chkV es g.2 cols else (0, 5)
def tyA (k t : Int) : Int := if k = 1 ∨ k = 2 then 1 else t
def badS (es : List X) (cols : List Int) (g : Int × Int) : Bool := decide (g.1 = 2) && !accB 1 (argC es cols g).1
def grpC (es : List X) (ex : List Int) (ag : List (Int × Int)) (cols : List Int) : List Int × Int :=
  if (typC es ex cols).2 ≠ 0 then ([], (typC es ex cols).2)
  else if (mapE (argC es cols) ag).2 ≠ 0 then ([], (mapE (argC es cols) ag).2)
  else if ag.any (badS es cols) = true then ([], 7)
  else (ex.map (fun x => (chkV es x cols).1) ++ ag.map (fun g => tyA g.1 (argC es cols g).1), 0)
def colO (es : List X) (ts : List Tt) (n : Nd) (done : List (List Int)) : List Int × Int :=
  if n.k = 1 then scnC ts n.s
  else if n.k = 2 then prdC es n.p (atC done n.a)
  else if n.k = 3 then typC es n.ex (atC done n.a)
  else if n.k = 4 ∨ n.k = 5 then prdC es n.p (atC done n.a ++ atC done n.b)
  else if n.k = 6 ∨ n.k = 7 ∨ n.k = 8 then cmnC (atC done n.a) (atC done n.b)
  else if n.k = 10 then grpC es n.ex n.ag (atC done n.a)
  else (atC done n.a, 0)
def wdC (c : List Int × Int) : List Int × Int := if c.2 ≠ 0 then ([], c.2) else if c.1.length = 0 ∨ 64 < c.1.length then ([], 4) else c
def chkN (es : List X) (ts : List Tt) (n : Nd) (done : List (List Int)) : List Int × Int :=
  if inpN n.k = -1 then ([], 5)
  else if (1 ≤ inpN n.k ∧ isIx n.a done.length = false) ∨ (inpN n.k = 2 ∧ isIx n.b done.length = false) then ([], 10)
  else wdC (colO es ts n done)
def colsQ (es : List X) (ts : List Tt) : List Nd → List (List Int) → List (List Int) × Int
  | [], done => (done, 0)
  | n :: l, done => if (chkN es ts n done).2 ≠ 0 then ([], (chkN es ts n done).2) else colsQ es ts l (done ++ [(chkN es ts n done).1])
def colQ (es : List X) (ts : List Tt) (l : List Nd) : List (List Int) × Int := if l.length = 0 ∨ 40 < l.length ∨ 200 < es.length then ([], 4) else colsQ es ts l []
/-- what Check returns -/
def chkQ (es : List X) (ts : List Tt) (l : List Nd) : List Int × Int := if (colQ es ts l).2 ≠ 0 then ([], (colQ es ts l).2) else ((colQ es ts l).1.getLastD [], 0)

/- rows -/
/-- numbers without order and repetition -/
def linL (l : List Int) : List Int := Lib.compact (l.mergeSort fun x y => decide (x ≤ y))
theorem linL_asc (l : List Int) : Asc (linL l) := (sort_cut l).1
theorem linL_mem (l : List Int) (c : Int) : c ∈ linL l ↔ c ∈ l := (sort_cut l).2 c
theorem linL_eq {a b : List Int} (h : ∀ c, c ∈ a ↔ c ∈ b) : linL a = linL b := asc_unique _ _ (linL_asc _) (linL_asc _) fun c => by rw [linL_mem, linL_mem]; exact h c
def linR (l : List R) : List Int := linL (l.flatMap R.t)
def hldB (es : List X) (p : Int) (v : List V) : Bool := truB (evlV es p v)
def valL (es : List X) (ex : List Int) (v : List V) : List V := ex.map fun x => evlV es x v
def selL (es : List X) (p : Int) (l : List R) : List R := l.filter fun r => hldB es p r.v
def prjL (es : List X) (ex : List Int) (l : List R) : List R := l.map fun r => ⟨valL es ex r.v, r.t⟩
def parL (es : List X) (p : Int) (r : R) (l : List R) : List R := (l.filter fun o => hldB es p (r.v ++ o.v)).map fun o => ⟨r.v ++ o.v, linL (r.t ++ o.t)⟩
def padL (w : Nat) (r : R) : R := ⟨r.v ++ List.replicate w nul, r.t⟩
/-- one row with its partners -/
def oneJ (es : List X) (p : Int) (left : Bool) (w : Nat) (b : List R) (r : R) : List R := if (parL es p r b).length = 0 ∧ left = true then [padL w r] else parL es p r b
def jnL (es : List X) (p : Int) (left : Bool) (w : Nat) (a b : List R) : List R := a.flatMap (oneJ es p left w b)
abbrev Cl := List V × List R
/-- classes of rows, in the order of their first rows -/
def addC (f : R → List V) (cs : List Cl) (r : R) : List Cl := if cs.any (fun c => decide (c.1 = f r)) = true then cs.map (fun c => if c.1 = f r then (c.1, c.2 ++ [r]) else c) else cs ++ [(f r, [r])]
def clsF (f : R → List V) (l : List R) : List Cl := l.foldl (addC f) []
def timE (m n : Nat) : Nat := m - n
def timI (m n : Nat) : Nat := min m n
def cmbC (f : Nat → Nat → Nat) (a : List R) (c : Cl) : List R := List.replicate (f (cnt a c.1) (c.2.length - cnt a c.1)) ⟨c.1, linR c.2⟩
def minL (l : List V) : V := l.tail.foldl (fun m v => if cmpV v m < 0 then v else m) (l.headD nul)
def maxL (l : List V) : V := l.tail.foldl (fun m v => if 0 < cmpV v m then v else m) (l.headD nul)
def intL (l : List V) : List Int := (l.filter fun v => decide (v.k = 1)).map V.n
def sumL (l : List V) : V := if (intL l).length = 0 then nul else numV (intL l).sum
def agV (es : List X) (l : List R) (g : Int × Int) : V :=
  if g.1 = 1 then ⟨1, l.length, []⟩
  else
    let az := (l.map fun r => evlV es g.2 r.v).filter fun v => decide (v.k ≠ 0)
    if az.length = 0 then nul else if g.1 = 3 then minL az else if g.1 = 4 then maxL az else sumL az
def grpR (es : List X) (ag : List (Int × Int)) (c : Cl) : R := ⟨c.1 ++ ag.map (agV es c.2), linR c.2⟩
def oneC (ex : List Int) (cs : List Cl) : List Cl := if cs.length = 0 ∧ ex.length = 0 then [([], [])] else cs
structure Tb where
  t : Tt
  l : List R
instance : Inhabited Tb := ⟨⟨default, []⟩⟩
def scnL : List Tb → List UInt8 → List R
  | [], _ => []
  | t :: l, s => if t.t.s = s then t.l else scnL l s
def atL (l : List (List R)) (i : Int) : List R := l.getD i.toNat []
/-- the rows of a node, classes given by cl -/
def evN (cl : (R → List V) → List R → List Cl) (es : List X) (db : List Tb) (cols : List (List Int)) (n : Nd) (done : List (List R)) : List R :=
  if n.k = 1 then scnL db n.s
  else if n.k = 2 then selL es n.p (atL done n.a)
  else if n.k = 3 then prjL es n.ex (atL done n.a)
  else if n.k = 4 ∨ n.k = 5 then jnL es n.p (decide (n.k = 5)) (atC cols n.b).length (atL done n.a) (atL done n.b)
  else if n.k = 6 then atL done n.a ++ atL done n.b
  else if n.k = 7 then (cl R.v (atL done n.a ++ atL done n.b)).flatMap (cmbC timE (atL done n.a))
  else if n.k = 8 then (cl R.v (atL done n.a ++ atL done n.b)).flatMap (cmbC timI (atL done n.a))
  else if n.k = 10 then (oneC n.ex (cl (fun r => valL es n.ex r.v) (atL done n.a))).map (grpR es n.ag)
  else (cl R.v (atL done n.a)).map fun c => ⟨c.1, linR c.2⟩
def evsQ (cl : (R → List V) → List R → List Cl) (es : List X) (db : List Tb) (cols : List (List Int)) : List Nd → List (List R) → List (List R) × Int
  | [], done => (done, 0)
  | n :: l, done => if 4096 < (evN cl es db cols n done).length then ([], 12) else evsQ cl es db cols l (done ++ [evN cl es db cols n done])
/-- what Eval returns -/
def evQ (cl : (R → List V) → List R → List Cl) (es : List X) (db : List Tb) (l : List Nd) : List R × Int :=
  let c := colQ es (db.map Tb.t) l
  if c.2 ≠ 0 then ([], c.2)
  else if (evsQ cl es db c.1 l []).2 ≠ 0 then ([], (evsQ cl es db c.1 l []).2)
  else (sortR ((evsQ cl es db c.1 l []).1.getLastD []), 0)
end Go.Proofs.YtbplapkcleipiaaGreatDoor
/- Worlds that grow, with new blocks of whatever kind: what was there stays «as» it was. -/
namespace Go.Proofs.YtbplapkcleipiaaGreatDoor
open Go.ChangeShapes Go.WideShapes Go.ChangeAt Go.RowKit

/-- what was there stays «as» it was -/
def Ext (w w' : World) : Prop := w.keptBut w' (fun _ => False) ∧ (∀ a : Addr, a.block < w.heap.size → w'.frozen? a = w.frozen? a) ∧ w.heap.size ≤ w'.heap.size
theorem Ext.refl (w : World) : Ext w w := ⟨World.keptBut_refl _ _, fun _ _ => rfl, Nat.le_refl _⟩
theorem ext_of_grown {w w' : World} (h : Grown w w') : Ext w w' := ⟨h.1, fun a _ => h.2.1 a, h.2.2⟩
theorem Ext.trans {a b c : World} (h : Ext a b) (k : Ext b c) : Ext a c :=
  ⟨World.keptBut_trans h.1 (World.keptBut_mono (fun _ f => f.elim) k.1), fun x hx => (k.2.1 x (Nat.lt_of_lt_of_le hx h.2.2)).trans (h.2.1 x hx), Nat.le_trans h.2.2 k.2.2⟩
theorem ext_of_below {w w' : World} (h : Below w.heap.size w w') : Ext w w' := ⟨h.frame _, fun _ hx => h.frozen hx, h.size⟩
theorem Ext.cell {w w' : World} (h : Ext w w') {b o : Nat} (hb : b < w.heap.size) : w'.cell? ⟨b, o, none⟩ = w.cell? ⟨b, o, none⟩ := World.keptBut.cell h.1 hb (fun f => f)
theorem Ext.keeps {w w' : World} (h : Ext w w') {b o : Nat} {v : Value} (c : w.cell? ⟨b, o, none⟩ = some v) : w'.cell? ⟨b, o, none⟩ = some v := by
  rw [h.cell (World.block_lt_of_cell? _ _ c)]; exact c
theorem Ext.block {w w' : World} (h : Ext w w') {g : Nat} {cur : Array Value} {e : TypeId} {fr : Nat × Nat} (hg : w.heap[g]? = some (.cells cur e fr)) : w'.heap[g]? = some (.cells cur e fr) := by
  have hlt : g < w.heap.size := (Array.getElem?_eq_some_iff.1 hg).1
  have hk := h.1.2.2 g hlt
  rw [hg] at hk
  cases hw : w'.heap[g]? with
  | none => rw [hw] at hk; exact hk
  | some o =>
    rw [hw] at hk
    cases o with
    | cells c' t' fr' =>
      obtain ⟨rfl, rfl, hs, hj⟩ := hk
      have : c' = cur := Array.ext_getElem? (fun j => hj j (fun f => f))
      rw [this]
    | _ => exact hk
theorem Ext.owns {w w' : World} (h : Ext w w') {base : Nat} {e : TypeId} {size : Nat} {v : Value} {n : Nat} {xs : List Value} (ho : w.ownsRow base e size v n xs) : w'.ownsRow base e size v n xs := by
  obtain ⟨h1, h2⟩ := ho
  refine ⟨h1, ?_⟩
  rcases h2 with h2 | ⟨g, cap, cur, hv, hg, hh, r⟩
  · exact Or.inl h2
  · exact Or.inr ⟨g, cap, cur, hv, hg, h.block hh, r⟩
theorem owns_zero {w : World} {base : Nat} {e : TypeId} {size : Nat} {v : Value} {n : Nat} {xs : List Value} (ho : w.ownsRow base e size v n xs) : w.ownsRow 0 e size v n xs := by
  obtain ⟨h1, h2⟩ := ho
  refine ⟨h1, ?_⟩
  rcases h2 with h2 | ⟨g, cap, cur, hv, hg, hh, r⟩
  · exact Or.inl h2
  · exact Or.inr ⟨g, cap, cur, hv, Nat.zero_le _, hh, r⟩
end Go.Proofs.YtbplapkcleipiaaGreatDoor
