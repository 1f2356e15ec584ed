/- The relations of two periods, in plain arithmetic. -/
import Derived.Test.YtckknhocmbhmhaaVal
import Derived.Test.YtckknhocmbhmhaaPL
namespace Go.Proofs.Ytckknhocmbhmhaa

/-- the relation of [a, b) and [c, d), by their ends -/
def relF (a b c d : Int) : Int :=
  if b < c then 1 else if b = c then 2 else if d < a then 13 else if d = a then 12 else if a = c ∧ b = d then 7 else if a = c ∧ b < d then 6 else if a = c then 8
  else if b = d ∧ a < c then 4 else if b = d then 10 else if a < c ∧ d < b then 5 else if c < a ∧ b < d then 9 else if a < c then 3 else 11
/-- the seven relations that are defined by a condition -/
def defF (a b c d : Int) : Int :=
  if b < c then 1 else if b = c then 2 else if a < c ∧ c < b ∧ b < d then 3 else if a < c ∧ b = d then 4 else if a < c ∧ d < b then 5 else if a = c ∧ b < d then 6 else if a = c ∧ b = d then 7 else 0
def invF (r : Int) : Int := if r < 1 ∨ 13 < r then 0 else 14 - r
def relV (a b c d : Int) : Int := if okV a b = true ∧ okV c d = true then relF a b c d else 0
def incB (a b t : Int) : Bool := okV a b && decide (a ≤ t ∧ t < b)

theorem okV_iff (a b : Int) : okV a b = true ↔ 0 ≤ a ∧ a < b ∧ b ≤ 1099511627776 := by simp [okV]
/-- the thirteen arrangements of two periods, with their relation -/
def Arr (a b c d r : Int) : Prop :=
  (b < c ∧ r = 1) ∨ (b = c ∧ r = 2) ∨ (a < c ∧ c < b ∧ b < d ∧ r = 3) ∨ (a < c ∧ b = d ∧ r = 4) ∨ (a < c ∧ d < b ∧ r = 5) ∨ (a = c ∧ b < d ∧ r = 6) ∨ (a = c ∧ b = d ∧ r = 7) ∨
  (a = c ∧ d < b ∧ r = 8) ∨ (c < a ∧ b < d ∧ r = 9) ∨ (c < a ∧ b = d ∧ r = 10) ∨ (c < a ∧ a < d ∧ d < b ∧ r = 11) ∨ (d = a ∧ r = 12) ∨ (d < a ∧ r = 13)
theorem arr_rel {a b c d r : Int} (h : a < b) (k : c < d) (x : Arr a b c d r) : relF a b c d = r := by
  unfold Arr at x
  unfold relF
  rcases x with x | x | x | x | x | x | x | x | x | x | x | x | x
  all_goals (repeat (first | rw [if_neg (by omega)] | rw [if_pos (by omega)])) <;> omega
theorem arr_of (a b c d : Int) (h : a < b) (k : c < d) : Arr a b c d (relF a b c d) := by
  have key : ∀ r, Arr a b c d r → Arr a b c d (relF a b c d) := fun r x => by rw [arr_rel h k x]; exact x
  rcases Int.lt_trichotomy b c with e1 | e1 | e1
  · exact key 1 (by unfold Arr; simp; omega)
  · exact key 2 (by unfold Arr; simp; omega)
  · rcases Int.lt_trichotomy d a with e2 | e2 | e2
    · exact key 13 (by unfold Arr; simp; omega)
    · exact key 12 (by unfold Arr; simp; omega)
    · rcases Int.lt_trichotomy a c with e3 | e3 | e3 <;> rcases Int.lt_trichotomy b d with e4 | e4 | e4
      · exact key 3 (by unfold Arr; simp; omega)
      · exact key 4 (by unfold Arr; simp; omega)
      · exact key 5 (by unfold Arr; simp; omega)
      · exact key 6 (by unfold Arr; simp; omega)
      · exact key 7 (by unfold Arr; simp; omega)
      · exact key 8 (by unfold Arr; simp; omega)
      · exact key 9 (by unfold Arr; simp; omega)
      · exact key 10 (by unfold Arr; simp; omega)
      · exact key 11 (by unfold Arr; simp; omega)
theorem arr_inv {a b c d r : Int} (x : Arr a b c d r) : Arr c d a b (14 - r) := by
  unfold Arr at x
  rcases x with ⟨x, rfl⟩ | ⟨x, rfl⟩ | ⟨x, y, z, rfl⟩ | ⟨x, y, rfl⟩ | ⟨x, y, rfl⟩ | ⟨x, y, rfl⟩ | ⟨x, y, rfl⟩ | ⟨x, y, rfl⟩ | ⟨x, y, rfl⟩ | ⟨x, y, rfl⟩ | ⟨x, y, z, rfl⟩ | ⟨x, rfl⟩ | ⟨x, rfl⟩
  all_goals
    unfold Arr
    simp
    omega
theorem relF_bd (a b c d : Int) (h : a < b) (k : c < d) : 1 ≤ relF a b c d ∧ relF a b c d ≤ 13 := by
  have x := arr_of a b c d h k
  unfold Arr at x
  rcases x with x | x | x | x | x | x | x | x | x | x | x | x | x <;> omega
theorem relF_eq (a b c d : Int) (h : a < b) (k : c < d) : relF a b c d = 7 ↔ a = c ∧ b = d := by
  have x := arr_of a b c d h k
  unfold Arr at x
  rcases x with x | x | x | x | x | x | x | x | x | x | x | x | x <;> omega
theorem relF_inv (a b c d : Int) (h : a < b) (k : c < d) : relF c d a b = 14 - relF a b c d := arr_rel k h (arr_inv (arr_of a b c d h k))
theorem def_rel (a b c d : Int) (h : a < b) (k : c < d) : (defF a b c d ≠ 0 → relF a b c d = defF a b c d) ∧ (defF a b c d = 0 → relF a b c d = invF (defF c d a b)) := by
  have e := arr_of a b c d h k
  unfold Arr at e
  generalize relF a b c d = r at e ⊢
  generalize hx : defF a b c d = x
  generalize hy : defF c d a b = y
  unfold defF at hx hy
  rcases e with e | e | e | e | e | e | e | e | e | e | e | e | e
  all_goals
    (repeat (first | rw [if_neg (by omega)] at hx | rw [if_pos (by omega)] at hx))
    (repeat (first | rw [if_neg (by omega)] at hy | rw [if_pos (by omega)] at hy))
    unfold invF
    split <;> omega
theorem relV_yes {a b c d : Int} (h : okV a b = true) (k : okV c d = true) : relV a b c d = relF a b c d := by simp [relV, h, k]
theorem relV_no {a b c d : Int} (h : okV a b = false ∨ okV c d = false) : relV a b c d = 0 := by rcases h with h | h <;> simp [relV, h]
theorem inv_inv {r : Int} (h : 1 ≤ r) (k : r ≤ 13) : invF r = 14 - r ∧ invF (invF r) = r := by unfold invF; (repeat' split) <;> omega
end Go.Proofs.Ytckknhocmbhmhaa
