/- The program's common and complement, in plain lists. -/
import Derived.Test.YtckknhocmbhmhaaMrg
import Derived.Test.YtckknhocmbhmhaaPr4R
namespace Go.Proofs.Ytckknhocmbhmhaa

theorem memB_bd {l : List (Int × Int)} {t : Int} (h : memB l t = true) : 0 ≤ t ∧ t < 1099511627776 := by
  obtain ⟨p, _, r⟩ := memB_iff.1 h
  omega
/-- the part that two valid periods have in common -/
theorem part_iff {a b c d : Int} (h : 0 ≤ a ∧ a < b ∧ b ≤ 1099511627776) (k : 0 ≤ c ∧ c < d ∧ d ≤ 1099511627776) :
    (itB a b c d = true ∧ (0 ≤ itF a b c d ∧ itF a b c d < itT a b c d ∧ itT a b c d ≤ 1099511627776) ∧ (itF a b c d = a ∨ itF a b c d = c) ∧ a ≤ itF a b c d ∧ c ≤ itF a b c d ∧ itT a b c d ≤ b ∧ itT a b c d ≤ d ∧ (itT a b c d = b ∨ itT a b c d = d)) ∨
    (itB a b c d = false ∧ (b ≤ c ∨ d ≤ a)) := by
  have hx : mxF a c = a ∧ c ≤ a ∨ mxF a c = c ∧ a ≤ c := by unfold mxF; split <;> omega
  have hn : mnF b d = b ∧ b ≤ d ∨ mnF b d = d ∧ d ≤ b := by unfold mnF; split <;> omega
  by_cases hlt : mxF a c < mnF b d
  · left
    obtain ⟨e1, e2, e3⟩ := it_yes ((okV_iff a b).2 h) ((okV_iff c d).2 k) hlt
    rw [e2, e3]
    exact ⟨e1, by omega⟩
  · right
    refine ⟨by simp [itB, hlt], by omega⟩
/-- the rows x and y are still to come, r is found -/
structure CInv (A B x y r : List (Int × Int)) : Prop where
  nx : NF x
  ny : NF y
  nr : NF r
  mem : ∀ t, (memB r t || (memB x t && memB y t)) = (memB A t && memB B t)
  gap : ∀ p ∈ r, ∀ q ∈ x, ∀ s ∈ y, p.2 < q.1 ∨ p.2 < s.1
theorem CInv.start {A B : List (Int × Int)} (h : NF A) (k : NF B) : CInv A B A B [] := ⟨h, k, NF.nil, fun _ => rfl, fun _ hp => absurd hp List.not_mem_nil⟩
theorem CInv.done {A B x y r : List (Int × Int)} (h : CInv A B x y r) (e : x = [] ∨ y = []) : NF r ∧ ∀ t, memB r t = (memB A t && memB B t) := by
  refine ⟨h.nr, fun t => ?_⟩
  rw [← h.mem]
  rcases e with rfl | rfl <;> simp [memB_nil]
theorem CInv.put {A B x y r : List (Int × Int)} {a b c d : Int} (h : CInv A B ((a, b) :: x) ((c, d) :: y) r) (e : itB a b c d = true) : NF (r ++ [(itF a b c d, itT a b c d)]) := by
  rcases part_iff h.nx.head h.ny.head with ⟨_, hv, hc⟩ | ⟨e', _⟩
  · simp only at hv hc
    refine h.nr.snoc hv (fun p hp => ?_)
    have := h.gap p hp (a, b) List.mem_cons_self (c, d) List.mem_cons_self
    simp only at this
    omega
  · simp only at e'
    rw [e] at e'; cases e'
/-- what is found at the two heads -/
def partL (a b c d : Int) : List (Int × Int) := if itB a b c d = true then [(itF a b c d, itT a b c d)] else []
theorem partL_mem {a b c d : Int} (h : 0 ≤ a ∧ a < b ∧ b ≤ 1099511627776) (k : 0 ≤ c ∧ c < d ∧ d ≤ 1099511627776) (t : Int) : memB (partL a b c d) t = (incB a b t && incB c d t) := by
  unfold partL
  rw [Bool.eq_iff_iff, Bool.and_eq_true, incB_yes, incB_yes]
  rcases part_iff h k with ⟨e, r⟩ | ⟨e, r⟩
  · rw [if_pos e, memB_cons, memB_nil, Bool.or_false, incB_yes]; omega
  · rw [if_neg (by rw [e]; simp), memB_nil]
    simp only [Bool.false_eq_true, false_iff]; omega
theorem partL_end {a b c d : Int} (h : 0 ≤ a ∧ a < b ∧ b ≤ 1099511627776) (k : 0 ≤ c ∧ c < d ∧ d ≤ 1099511627776) : ∀ p ∈ partL a b c d, p.2 ≤ b ∧ p.2 ≤ d := by
  intro p hp
  unfold partL at hp
  rcases part_iff h k with ⟨e, r⟩ | ⟨e, _⟩
  · rw [if_pos e] at hp; simp at hp; subst hp; simp only; omega
  · rw [if_neg (by rw [e]; simp)] at hp; exact absurd hp List.not_mem_nil
theorem CInv.putL {A B x y r : List (Int × Int)} {a b c d : Int} (h : CInv A B ((a, b) :: x) ((c, d) :: y) r) : NF (r ++ partL a b c d) := by
  unfold partL
  split
  · exact h.put (by assumption)
  · simpa using h.nr
theorem CInv.left {A B x y r : List (Int × Int)} {a b c d : Int} (h : CInv A B ((a, b) :: x) ((c, d) :: y) r) (e : b < d) : CInv A B x ((c, d) :: y) (r ++ partL a b c d) := by
  have ha := h.nx.head
  have hc := h.ny.head
  simp only at ha hc
  refine ⟨h.nx.tail, h.ny, h.putL, fun t => ?_, fun p hp q hq s hs => ?_⟩
  · rw [← h.mem t, memB_append, partL_mem ha hc, memB_cons (a, b) x, memB_cons (c, d) y]
    have hn : incB a b t = true → memB y t = false := by
      intro hi
      rw [← Bool.not_eq_true]
      intro hy
      have h1 := h.ny.after hy
      have h2 := incB_yes.1 hi
      simp only at h1
      omega
    simp only
    cases hi : incB a b t
    · simp
    · rw [hn hi]; cases memB r t <;> cases incB c d t <;> cases memB x t <;> rfl
  · rcases List.mem_append.1 hp with hp | hp
    · exact h.gap p hp q (List.mem_cons_of_mem _ hq) s hs
    · have h1 := (partL_end ha hc p hp).1
      have h2 := h.nx.gap q hq
      simp only at h2
      left; omega
theorem CInv.right {A B x y r : List (Int × Int)} {a b c d : Int} (h : CInv A B ((a, b) :: x) ((c, d) :: y) r) (e : d ≤ b) : CInv A B ((a, b) :: x) y (r ++ partL a b c d) := by
  have ha := h.nx.head
  have hc := h.ny.head
  simp only at ha hc
  refine ⟨h.nx, h.ny.tail, h.putL, fun t => ?_, fun p hp q hq s hs => ?_⟩
  · rw [← h.mem t, memB_append, partL_mem ha hc, memB_cons (a, b) x, memB_cons (c, d) y]
    have hn : incB c d t = true → memB x t = false := by
      intro hi
      rw [← Bool.not_eq_true]
      intro hy
      have h1 := h.nx.after hy
      have h2 := incB_yes.1 hi
      simp only at h1
      omega
    simp only
    cases hi : incB c d t
    · simp
    · rw [hn hi]; cases memB r t <;> cases incB a b t <;> cases memB y t <;> rfl
  · rcases List.mem_append.1 hp with hp | hp
    · exact h.gap p hp q hq s (List.mem_cons_of_mem _ hs)
    · have h1 := (partL_end ha hc p hp).2
      have h2 := h.ny.gap s hs
      simp only at h2
      right; omega

/-- the gaps ahead of 'from', behind k periods -/
structure GInv (s : List (Int × Int)) (k : Nat) (f : Int) (r : List (Int × Int)) : Prop where
  nr : NF r
  bd : 0 ≤ f ∧ f ≤ 1099511627776
  fr : ∀ p ∈ r, p.2 < f
  mem : ∀ t, memB r t = (decide (0 ≤ t ∧ t < f) && !memB (s.take k) t)
  rest : ∀ q ∈ s.drop k, f ≤ q.1
  past : ∀ t, memB (s.take k) t = true → t < f
theorem GInv.start {s : List (Int × Int)} (h : NF s) : GInv s 0 0 [] :=
  ⟨NF.nil, by omega, fun _ hp => absurd hp List.not_mem_nil, fun t => by simp [memB_nil] <;> omega, fun q hq => (h.1 q (by simpa using hq)).1, fun t ht => by simp [memB_nil] at ht⟩
theorem GInv.step {s r : List (Int × Int)} {k : Nat} {f x y : Int} (hs : NF s) (h : GInv s k f r) (hk : k < s.length) (e : s[k] = (x, y)) : GInv s (k + 1) y (r ++ if f < x then [(f, x)] else []) := by
  have hv := hs.1 s[k] (List.getElem_mem _)
  have hr := h.rest s[k] (by rw [drop_at hk]; exact List.mem_cons_self)
  rw [e] at hv hr
  simp only at hv hr
  have hd : NF ((x, y) :: s.drop (k + 1)) := by have := hs.drop k; rwa [drop_at hk, e] at this
  have hb := h.bd
  refine ⟨?_, by omega, ?_, fun t => ?_, fun q hq => by have := hd.gap q hq; simp only at this; omega, fun t ht => ?_⟩
  · by_cases c : f < x
    · rw [if_pos c]; exact h.nr.snoc (by omega) h.fr
    · rw [if_neg c, List.append_nil]; exact h.nr
  · intro p hp
    rcases List.mem_append.1 hp with hp | hp
    · have := h.fr p hp; omega
    · by_cases c : f < x
      · rw [if_pos c] at hp; simp at hp; subst hp; simp only; omega
      · rw [if_neg c] at hp; exact absurd hp List.not_mem_nil
  · rw [memB_append, h.mem, memB_take hk, e]
    simp only
    have hp := h.past t
    have hg : memB (if f < x then [(f, x)] else []) t = decide (f ≤ t ∧ t < x) := by
      by_cases c : f < x
      · rw [if_pos c, Bool.eq_iff_iff, memB_cons, memB_nil, Bool.or_false, incB_yes]; simp; omega
      · rw [if_neg c, Bool.eq_iff_iff]; simp [memB_nil]; omega
    have hi : incB x y t = decide (x ≤ t ∧ t < y) := by rw [Bool.eq_iff_iff, incB_yes]; simp; omega
    rw [hg, hi]
    cases hm : memB (s.take k) t
    · rw [Bool.eq_iff_iff]; simp; omega
    · have := hp hm
      rw [Bool.eq_iff_iff]; simp; omega
  · rw [memB_take hk, e, Bool.or_eq_true] at ht
    rcases ht with ht | ht
    · have := h.past t ht; omega
    · have := incB_yes.1 ht; simp only at this; omega
theorem GInv.done {s r : List (Int × Int)} {f : Int} (h : GInv s s.length f r) : NF (r ++ if f < 1099511627776 then [(f, 1099511627776)] else []) ∧
    ∀ t, memB (r ++ if f < 1099511627776 then [(f, 1099511627776)] else []) t = (decide (0 ≤ t ∧ t < 1099511627776) && !memB s t) := by
  have hb := h.bd
  have hall : s.take s.length = s := List.take_length
  refine ⟨?_, fun t => ?_⟩
  · by_cases c : f < 1099511627776
    · rw [if_pos c]; exact h.nr.snoc (by omega) h.fr
    · rw [if_neg c, List.append_nil]; exact h.nr
  · have hm := h.mem t
    have hp := h.past t
    rw [hall] at hm hp
    have hg : memB (if f < 1099511627776 then [(f, 1099511627776)] else []) t = decide (f ≤ t ∧ t < 1099511627776) := by
      by_cases c : f < 1099511627776
      · rw [if_pos c, Bool.eq_iff_iff, memB_cons, memB_nil, Bool.or_false, incB_yes]; simp; omega
      · rw [if_neg c, Bool.eq_iff_iff]; simp [memB_nil]; omega
    rw [memB_append, hm, hg]
    cases hk : memB s t
    · rw [Bool.eq_iff_iff]; simp; omega
    · have := hp hk
      rw [Bool.eq_iff_iff]; simp; omega
end Go.Proofs.Ytckknhocmbhmhaa
