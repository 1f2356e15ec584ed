/- The reference's insert, in plain lists. -/
import Derived.Test.YtckknhocmbhmhaaMrg
namespace Go.Proofs.Ytckknhocmbhmhaa

/-- [x, y) has taken in the periods from j to i -/
structure JInv (s : List (Int × Int)) (x y : Int) (j i : Nat) (x' y' : Int) : Prop where
  le : j ≤ i
  val : 0 ≤ x' ∧ x' < y' ∧ y' ≤ 1099511627776
  lo : ∀ q ∈ s.take j, q.2 < x'
  hi : ∀ q ∈ s.drop i, x' ≤ q.2
  mem : ∀ t, (memB (s.take j) t || incB x' y' t || memB (s.drop i) t) = (memB s t || incB x y t)
theorem JInv.start {s : List (Int × Int)} {x y : Int} {j : Nat} (hs : NF s) (hv : 0 ≤ x ∧ x < y ∧ y ≤ 1099511627776) (hlo : ∀ q ∈ s.take j, q.2 < x) (hend : ∀ h : j < s.length, x ≤ s[j].2) : JInv s x y j j x y := by
  refine ⟨Nat.le_refl _, hv, hlo, fun q hq => ?_, fun t => ?_⟩
  · by_cases h : j < s.length
    · have hd : NF (s[j] :: s.drop (j + 1)) := by have := hs.drop j; rwa [drop_at h] at this
      rw [drop_at h] at hq
      have he := hend h
      rcases List.mem_cons.1 hq with rfl | hq
      · exact he
      · have h1 := hd.gap q hq
        have h2 := hd.tail.1 q hq
        omega
    · rw [List.drop_eq_nil_of_le (by omega)] at hq; exact absurd hq List.not_mem_nil
  · have e : memB s t = (memB (s.take j) t || memB (s.drop j) t) := by rw [← memB_append, List.take_append_drop]
    rw [e]
    cases memB (s.take j) t <;> cases incB x y t <;> cases memB (s.drop j) t <;> rfl
theorem JInv.step {s : List (Int × Int)} {x y x' y' a b c d : Int} {j i : Nat} (hs : NF s) (h : JInv s x y j i x' y') (hi : i < s.length) (e : s[i] = (a, b)) (hle : a ≤ y')
    (hc : c ≤ x' ∧ c ≤ a ∧ (c = x' ∨ c = a)) (hd : y' ≤ d ∧ b ≤ d ∧ (d = y' ∨ d = b)) : JInv s x y j (i + 1) c d := by
  have hab := hs.1 s[i] (List.getElem_mem _)
  have hxb := h.hi s[i] (by rw [drop_at hi]; exact List.mem_cons_self)
  rw [e] at hab hxb
  have hv := h.val
  have hl := h.le
  simp only at hab hxb
  refine ⟨by omega, by omega, fun q hq => ?_, fun q hq => ?_, fun t => ?_⟩
  · have h1 := h.lo q hq
    have h2 : q.2 < a := by
      have hb : NF (s.take j ++ s.drop j) := by rw [List.take_append_drop]; exact hs
      have hm : s[i] ∈ s.drop j := by
        rw [List.mem_drop_iff_getElem]
        exact ⟨i - j, by omega, by congr 1; omega⟩
      have := hb.before hq hm
      rw [e] at this; exact this
    omega
  · have := h.hi q (by rw [drop_at hi]; exact List.mem_cons_of_mem _ hq)
    omega
  · rw [← h.mem t, drop_at hi, memB_cons, e]
    have : incB c d t = (incB x' y' t || incB a b t) := by
      rw [Bool.eq_iff_iff, Bool.or_eq_true, incB_yes, incB_yes, incB_yes]
      omega
    simp only
    rw [this]
    cases memB (s.take j) t <;> cases incB x' y' t <;> cases incB a b t <;> cases memB (s.drop (i + 1)) t <;> rfl
theorem JInv.done {s : List (Int × Int)} {x y x' y' : Int} {j i : Nat} (hs : NF s) (h : JInv s x y j i x' y') (hend : ∀ h : i < s.length, y' < s[i].1) :
    NF (s.take j ++ [(x', y')] ++ s.drop i) ∧ ∀ t, memB (s.take j ++ [(x', y')] ++ s.drop i) t = (memB s t || incB x y t) := by
  have hd : ∀ q ∈ s.drop i, y' < q.1 := by
    intro q hq
    by_cases hi : i < s.length
    · have hd : NF (s[i] :: s.drop (i + 1)) := by have := hs.drop i; rwa [drop_at hi] at this
      have he := hend hi
      have hv := hd.head
      rw [drop_at hi] at hq
      rcases List.mem_cons.1 hq with rfl | hq
      · exact he
      · have h1 := hd.gap q hq
        omega
    · rw [List.drop_eq_nil_of_le (by omega)] at hq; exact absurd hq List.not_mem_nil
  have hv := h.val
  refine ⟨((hs.take j).snoc hv h.lo).append (hs.drop i) (fun p hp q hq => ?_), fun t => ?_⟩
  · have h1 := hd q hq
    rcases List.mem_append.1 hp with hp | hp
    · have := h.lo p hp; omega
    · simp at hp; subst hp; exact h1
  · rw [← h.mem t, memB_append, memB_append, memB_cons, memB_nil, Bool.or_false]
end Go.Proofs.Ytckknhocmbhmhaa
