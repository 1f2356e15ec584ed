/- Values in plain lists: validity, order, texts. -/
import Derived.Lib.ItoaNum
import Derived.Lib.Bytealg
import Derived.Lib.Small
import GoSem.Op.String
namespace Go.Proofs.Ytnckdopphimgoaa

structure V where
  k : Int
  n : Int
  s : List UInt8
deriving DecidableEq
def nul : V := ⟨0, 0, []⟩

def vldB (v : V) : Bool := decide ((v.k = 0 ∧ v.n = 0 ∧ v.s = []) ∨ (v.k = 1 ∧ v.s = []) ∨ (v.k = 2 ∧ v.n = 0 ∧ v.s.length ≤ 200) ∨ (v.k = 3 ∧ (v.n = 0 ∨ v.n = 1) ∧ v.s = []))
def cmpV (a b : V) : Int := if a.k = b.k then (if a.n = b.n then Lib.compareBytes a.s b.s else Lib.compareInt a.n b.n) else Lib.compareInt a.k b.k
def cmpR : List V → List V → Int
  | [], [] => 0
  | [], _ :: _ => -1
  | _ :: _, [] => 1
  | a :: x, b :: y => if cmpV a b = 0 then cmpR x y else cmpV a b

theorem ci_vals (a b : Int) : (Lib.compareInt a b = -1 ∧ a < b) ∨ (Lib.compareInt a b = 0 ∧ a = b) ∨ (Lib.compareInt a b = 1 ∧ b < a) := by
  unfold Lib.compareInt
  split
  · left; exact ⟨rfl, by assumption⟩
  · split
    · right; right; exact ⟨rfl, by assumption⟩
    · right; left; exact ⟨rfl, by omega⟩
theorem cb_vals : ∀ a b : List UInt8, Lib.compareBytes a b = -1 ∨ Lib.compareBytes a b = 0 ∨ Lib.compareBytes a b = 1
  | [], [] => by simp [Lib.compareBytes]
  | [], _ :: _ => by simp [Lib.compareBytes]
  | _ :: _, [] => by simp [Lib.compareBytes]
  | x :: a, y :: b => by
    have := cb_vals a b
    unfold Lib.compareBytes
    split
    · simp
    · split
      · simp
      · exact this
theorem u8_tri (x y : UInt8) : (x < y ∧ ¬ y < x ∧ x ≠ y) ∨ (y < x ∧ ¬ x < y ∧ x ≠ y) ∨ (x = y ∧ ¬ x < y ∧ ¬ y < x) := by
  have h1 : x < y ↔ x.toNat < y.toNat := UInt8.lt_iff_toNat_lt
  have h2 : y < x ↔ y.toNat < x.toNat := UInt8.lt_iff_toNat_lt
  have h3 : x = y ↔ x.toNat = y.toNat := UInt8.toNat_inj.symm
  rw [Ne, h1, h2, h3]
  omega
theorem cb_zero : ∀ a b : List UInt8, Lib.compareBytes a b = 0 ↔ a = b
  | [], [] => by simp [Lib.compareBytes]
  | [], _ :: _ => by simp [Lib.compareBytes]
  | _ :: _, [] => by simp [Lib.compareBytes]
  | x :: a, y :: b => by
    have := cb_zero a b
    unfold Lib.compareBytes
    rcases u8_tri x y with ⟨h1, h2, h3⟩ | ⟨h1, h2, h3⟩ | ⟨h1, h2, h3⟩
    · simp [h1, h3]
    · simp [h1, h2, h3]
    · simp [h1, this]
theorem cb_swap : ∀ a b : List UInt8, Lib.compareBytes b a = - Lib.compareBytes a b
  | [], [] => by simp [Lib.compareBytes]
  | [], _ :: _ => by simp [Lib.compareBytes]
  | _ :: _, [] => by simp [Lib.compareBytes]
  | x :: a, y :: b => by
    have := cb_swap a b
    unfold Lib.compareBytes
    rcases u8_tri x y with ⟨h1, h2, h3⟩ | ⟨h1, h2, h3⟩ | ⟨h1, h2, h3⟩
    · simp [h1, h2]
    · simp [h1, h2]
    · simp [h2, h3, this]
theorem cb_less : ∀ a b : List UInt8, Op.bytesLess a b = decide (Lib.compareBytes a b = -1)
  | [], [] => by simp [Lib.compareBytes, Op.bytesLess]
  | [], _ :: _ => by simp [Lib.compareBytes, Op.bytesLess]
  | _ :: _, [] => by simp [Lib.compareBytes, Op.bytesLess]
  | x :: a, y :: b => by
    have := cb_less a b
    unfold Lib.compareBytes Op.bytesLess
    rcases u8_tri x y with ⟨h1, h2, h3⟩ | ⟨h1, h2, h3⟩ | ⟨h1, h2, h3⟩
    · simp [h1]
    · simp [h1, h2, h3]
    · simp [h1, this]
theorem cb_trans : ∀ a b c : List UInt8, Lib.compareBytes a b = -1 → Lib.compareBytes b c = -1 → Lib.compareBytes a c = -1
  | _, [], [] => by simp [Lib.compareBytes]
  | [], [], _ :: _ => by simp [Lib.compareBytes]
  | _ :: _, [], _ :: _ => by simp [Lib.compareBytes]
  | [], _ :: _, [] => by simp [Lib.compareBytes]
  | [], _ :: _, _ :: _ => by simp [Lib.compareBytes]
  | _ :: _, _ :: _, [] => by simp [Lib.compareBytes]
  | x :: a, y :: b, z :: c => by
    have ih := cb_trans a b c
    have t : x < y → y < z → x < z := by
      rw [UInt8.lt_iff_toNat_lt, UInt8.lt_iff_toNat_lt, UInt8.lt_iff_toNat_lt]; omega
    unfold Lib.compareBytes
    intro h k
    rcases u8_tri x y with ⟨h1, h2, h3⟩ | ⟨h1, h2, h3⟩ | ⟨h1, h2, h3⟩
    · rcases u8_tri y z with ⟨k1, k2, k3⟩ | ⟨k1, k2, k3⟩ | ⟨k1, k2, k3⟩
      · rw [if_pos (t h1 k1)]
      · rw [if_neg k2, if_pos k1] at k; simp at k
      · subst k1; rw [if_pos h1]
    · rw [if_neg h2, if_pos h1] at h; simp at h
    · subst h1
      rw [if_neg h2, if_neg h2] at h
      rcases u8_tri x z with ⟨k1, k2, k3⟩ | ⟨k1, k2, k3⟩ | ⟨k1, k2, k3⟩
      · rw [if_pos k1]
      · rw [if_neg k2, if_pos k1] at k; simp at k
      · rw [if_neg k2, if_neg k3] at k ⊢; exact ih h k
theorem cv_less (a b : V) : cmpV a b = -1 ↔ a.k < b.k ∨ (a.k = b.k ∧ (a.n < b.n ∨ (a.n = b.n ∧ Lib.compareBytes a.s b.s = -1))) := by
  unfold cmpV
  have h1 := ci_vals a.k b.k
  have h2 := ci_vals a.n b.n
  split
  · split
    · omega
    · omega
  · omega
theorem cv_vals (a b : V) : cmpV a b = -1 ∨ cmpV a b = 0 ∨ cmpV a b = 1 := by
  unfold cmpV
  have h1 := ci_vals a.k b.k
  have h2 := ci_vals a.n b.n
  have h3 := cb_vals a.s b.s
  split
  · split
    · exact h3
    · omega
  · omega
theorem cv_zero (a b : V) : cmpV a b = 0 ↔ a = b := by
  unfold cmpV
  have h1 := ci_vals a.k b.k
  have h2 := ci_vals a.n b.n
  have h3 := cb_zero a.s b.s
  obtain ⟨ak, an, «as»⟩ := a
  obtain ⟨bk, bn, bs⟩ := b
  simp only [V.mk.injEq] at *
  split
  · split
    · simp_all
    · simp_all; omega
  · simp_all; omega
theorem cv_swap (a b : V) : cmpV b a = - cmpV a b := by
  unfold cmpV
  have h1 := ci_vals a.k b.k
  have h2 := ci_vals a.n b.n
  have h1' := ci_vals b.k a.k
  have h2' := ci_vals b.n a.n
  have h3 := cb_swap a.s b.s
  by_cases hk : a.k = b.k
  · rw [if_pos hk, if_pos hk.symm]
    by_cases hn : a.n = b.n
    · rw [if_pos hn, if_pos hn.symm, h3]
    · rw [if_neg hn, if_neg (Ne.symm hn)]; omega
  · rw [if_neg hk, if_neg (Ne.symm hk)]; omega
theorem cv_trans (a b c : V) (h : cmpV a b = -1) (k : cmpV b c = -1) : cmpV a c = -1 := by
  rw [cv_less] at *
  rcases h with h | ⟨h1, h | ⟨h2, h⟩⟩ <;> rcases k with k | ⟨k1, k | ⟨k2, k⟩⟩ <;> first
    | exact Or.inr ⟨by omega, Or.inr ⟨by omega, cb_trans _ _ _ h k⟩⟩
    | exact Or.inl (by omega)
    | exact Or.inr ⟨by omega, Or.inl (by omega)⟩
/-- what the law of the order asks -/
theorem cv_order (a b c : V) : (0 < cmpV a b ∨ 0 < cmpV b c ∨ cmpV a c ≤ 0) ∧ (cmpV a b ≠ -1 ∨ 0 < cmpV b c ∨ cmpV a c = -1) := by
  rcases cv_vals a b with x | x | x <;> rcases cv_vals b c with y | y | y
  all_goals first
    | exact ⟨Or.inl (by omega), Or.inl (by omega)⟩
    | exact ⟨Or.inr (Or.inl (by omega)), Or.inr (Or.inl (by omega))⟩
    | skip
  · have := cv_trans a b c x y; exact ⟨Or.inr (Or.inr (by omega)), Or.inr (Or.inr this)⟩
  · have e := (cv_zero b c).1 y; subst e; exact ⟨Or.inr (Or.inr (by omega)), Or.inr (Or.inr x)⟩
  · have e := (cv_zero a b).1 x; subst e; exact ⟨Or.inr (Or.inr (by omega)), Or.inl (by omega)⟩
  · have e := (cv_zero a b).1 x; subst e; exact ⟨Or.inr (Or.inr (by omega)), Or.inl (by omega)⟩
theorem cr_vals : ∀ a b : List V, cmpR a b = -1 ∨ cmpR a b = 0 ∨ cmpR a b = 1
  | [], [] => by simp [cmpR]
  | [], _ :: _ => by simp [cmpR]
  | _ :: _, [] => by simp [cmpR]
  | x :: a, y :: b => by
    have := cr_vals a b
    have h := cv_vals x y
    unfold cmpR
    split
    · exact this
    · exact h
theorem cr_zero : ∀ a b : List V, cmpR a b = 0 ↔ a = b
  | [], [] => by simp [cmpR]
  | [], _ :: _ => by simp [cmpR]
  | _ :: _, [] => by simp [cmpR]
  | x :: a, y :: b => by
    have := cr_zero a b
    have h := cv_zero x y
    unfold cmpR
    by_cases e : cmpV x y = 0
    · rw [if_pos e, this, h.1 e]; simp
    · rw [if_neg e]; simp; exact ⟨fun z => absurd z e, fun z => absurd (h.2 z.1) e⟩
theorem cr_swap : ∀ a b : List V, cmpR b a = - cmpR a b
  | [], [] => by simp [cmpR]
  | [], _ :: _ => by simp [cmpR]
  | _ :: _, [] => by simp [cmpR]
  | x :: a, y :: b => by
    have := cr_swap a b
    have h := cv_swap x y
    unfold cmpR
    by_cases e : cmpV x y = 0
    · rw [if_pos e, if_pos (by omega), this]
    · rw [if_neg e, if_neg (by omega), h]
/-- equal so far, at every place -/
theorem cr_eq_take (a b : List V) (k : Nat) (ha : k < a.length) (hb : k < b.length) (h : a.take k = b.take k) : cmpR a b = if cmpV a[k] b[k] = 0 then cmpR (a.drop (k + 1)) (b.drop (k + 1)) else cmpV a[k] b[k] := by
  induction k generalizing a b with
  | zero =>
    obtain ⟨x, a, rfl⟩ := List.exists_cons_of_length_pos ha
    obtain ⟨y, b, rfl⟩ := List.exists_cons_of_length_pos hb
    simp [cmpR]
  | succ k ih =>
    obtain ⟨x, a, rfl⟩ := List.exists_cons_of_length_pos (show 0 < a.length by omega)
    obtain ⟨y, b, rfl⟩ := List.exists_cons_of_length_pos (show 0 < b.length by omega)
    simp only [List.take_succ_cons, List.cons.injEq] at h
    obtain ⟨rfl, h⟩ := h
    have := ih a b (by simpa using ha) (by simpa using hb) h
    simp only [List.getElem_cons_succ, List.drop_succ_cons]
    rw [← this, cmpR, if_pos ((cv_zero x x).2 rfl)]
theorem cr_end (a b : List V) (k : Nat) (ha : k ≤ a.length) (hb : k ≤ b.length) (h : a.take k = b.take k) (he : k = a.length ∨ k = b.length) : cmpR a b = if a.length < b.length then -1 else if b.length < a.length then 1 else 0 := by
  induction k generalizing a b with
  | zero =>
    cases a <;> cases b <;> simp [cmpR] at *
  | succ k ih =>
    obtain ⟨x, a, rfl⟩ := List.exists_cons_of_length_pos (show 0 < a.length by omega)
    obtain ⟨y, b, rfl⟩ := List.exists_cons_of_length_pos (show 0 < b.length by omega)
    simp only [List.take_succ_cons, List.cons.injEq] at h
    obtain ⟨rfl, h⟩ := h
    have := ih a b (by simpa using ha) (by simpa using hb) h (by simpa using he)
    rw [cmpR, if_pos ((cv_zero x x).2 rfl), this]
    simp
end Go.Proofs.Ytnckdopphimgoaa
