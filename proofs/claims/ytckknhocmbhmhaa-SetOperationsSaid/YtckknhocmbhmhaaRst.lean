/- The reference's IntersectSet and SubtractSet, in plain lists. -/
import Derived.Test.YtckknhocmbhmhaaCom
namespace Go.Proofs.Ytckknhocmbhmhaa

/-- behind i periods of A -/
structure OInv (A B : List (Int × Int)) (i : Nat) (r : List (Int × Int)) : Prop where
  nr : NF r
  mem : ∀ t, memB r t = (memB (A.take i) t && memB B t)
  bd : ∀ p ∈ r, ∃ q ∈ A.take i, p.2 ≤ q.2
/-- at the period (a, b) of A, behind k periods of B -/
structure KInv (A B : List (Int × Int)) (i : Nat) (a b : Int) (k : Nat) (r : List (Int × Int)) : Prop where
  nr : NF r
  mem : ∀ t, memB r t = ((memB (A.take i) t && memB B t) || (incB a b t && memB (B.take k) t))
  bd : ∀ p ∈ r, (∃ q ∈ A.take i, p.2 ≤ q.2) ∨ (p.2 ≤ b ∧ ∃ q ∈ B.take k, p.2 ≤ q.2)
theorem OInv.start (A B : List (Int × Int)) : OInv A B 0 [] := ⟨NF.nil, fun _ => rfl, fun _ hp => absurd hp List.not_mem_nil⟩
theorem OInv.go {A B r : List (Int × Int)} {i : Nat} (a b : Int) (h : OInv A B i r) : KInv A B i a b 0 r :=
  ⟨h.nr, fun t => by rw [h.mem]; simp [memB_nil], fun p hp => Or.inl (h.bd p hp)⟩
theorem take_lt {A : List (Int × Int)} {i : Nat} (hA : NF A) (hi : i < A.length) : ∀ q ∈ A.take i, q.2 < A[i].1 := by
  intro q hq
  have h : NF (A.take i ++ A.drop i) := by rw [List.take_append_drop]; exact hA
  exact h.before hq (by rw [drop_at hi]; exact List.mem_cons_self)
theorem KInv.step {A B r : List (Int × Int)} {i k : Nat} {a b c d : Int} (hA : NF A) (hB : NF B) (hi : i < A.length) (ea : A[i] = (a, b)) (hk : k < B.length) (eb : B[k] = (c, d)) (h : KInv A B i a b k r) : KInv A B i a b (k + 1) (r ++ partL a b c d) := by
  have va := hA.1 A[i] (List.getElem_mem _)
  have vb := hB.1 B[k] (List.getElem_mem _)
  have ta := take_lt hA hi
  have tb := take_lt hB hk
  rw [ea] at va ta
  rw [eb] at vb tb
  simp only at va vb ta tb
  have hsub : ∀ q ∈ B.take k, q ∈ B.take (k + 1) := fun q hq => by rw [List.take_succ_eq_append_getElem hk]; exact List.mem_append_left _ hq
  have hin : (c, d) ∈ B.take (k + 1) := by rw [List.take_succ_eq_append_getElem hk, eb]; exact List.mem_append_right _ List.mem_cons_self
  refine ⟨?_, fun t => ?_, fun p hp => ?_⟩
  · unfold partL
    split
    · rename_i hit
      rcases part_iff va vb with ⟨_, hv, hc⟩ | ⟨e, _⟩
      · refine h.nr.snoc hv (fun p hp => ?_)
        rcases h.bd p hp with ⟨q, hq, hpq⟩ | ⟨_, q, hq, hpq⟩
        · have := ta q hq; omega
        · have := tb q hq; omega
      · rw [hit] at e; cases e
    · rw [List.append_nil]; exact h.nr
  · rw [memB_append, h.mem, partL_mem va vb, memB_take hk, eb]
    simp only
    cases memB (A.take i) t <;> cases memB B t <;> cases incB a b t <;> cases memB (B.take k) t <;> cases incB c d t <;> rfl
  · rcases List.mem_append.1 hp with hp | hp
    · rcases h.bd p hp with h1 | ⟨h1, q, hq, h2⟩
      · exact Or.inl h1
      · exact Or.inr ⟨h1, q, hsub q hq, h2⟩
    · obtain ⟨h1, h2⟩ := partL_end va vb p hp
      exact Or.inr ⟨h1, (c, d), hin, h2⟩
theorem KInv.done {A B r : List (Int × Int)} {i : Nat} {a b : Int} (hi : i < A.length) (ea : A[i] = (a, b)) (h : KInv A B i a b B.length r) : OInv A B (i + 1) r := by
  have hall : B.take B.length = B := List.take_length
  refine ⟨h.nr, fun t => ?_, fun p hp => ?_⟩
  · rw [h.mem, hall, memB_take hi, ea]
    simp only
    cases memB (A.take i) t <;> cases memB B t <;> cases incB a b t <;> rfl
  · rw [List.take_succ_eq_append_getElem hi, ea]
    rcases h.bd p hp with ⟨q, hq, h1⟩ | ⟨h1, _⟩
    · exact ⟨q, List.mem_append_left _ hq, h1⟩
    · exact ⟨(a, b), List.mem_append_right _ List.mem_cons_self, h1⟩
theorem OInv.done {A B r : List (Int × Int)} (h : OInv A B A.length r) : NF r ∧ ∀ t, memB r t = (memB A t && memB B t) := by
  have hall : A.take A.length = A := List.take_length
  exact ⟨h.nr, fun t => by rw [h.mem, hall]⟩

/-- the pieces of a period without another -/
theorem subL_spec {a b : Int} (c d : Int) (h : 0 ≤ a ∧ a < b ∧ b ≤ 1099511627776) :
    NF (subL a b c d) ∧ (∀ t, memB (subL a b c d) t = (incB a b t && !incB c d t)) ∧ ∀ p ∈ subL a b c d, a ≤ p.1 ∧ p.2 ≤ b := by
  have hv := (okV_iff a b).2 h
  cases k : itB a b c d
  · have e : subL a b c d = [(a, b)] := by simp [subL, hv, k]
    rw [e]
    refine ⟨NF.one h.1 h.2.1 h.2.2, fun t => ?_, fun p hp => by simp at hp; subst hp; simp⟩
    rw [memB_cons, memB_nil, Bool.or_false]
    simp only
    cases hi : incB a b t
    · rfl
    · cases hj : incB c d t
      · rfl
      · exfalso
        have h1 := incB_yes.1 hi
        have h2 := incB_yes.1 hj
        rcases part_iff h h2.1 with ⟨e', _⟩ | ⟨_, r⟩
        · rw [k] at e'; cases e'
        · omega
  · have hcd : 0 ≤ c ∧ c < d ∧ d ≤ 1099511627776 := by
      have := k
      simp only [itB, Bool.and_eq_true] at this
      exact (okV_iff c d).1 this.1.2
    rcases part_iff h hcd with ⟨_, r⟩ | ⟨e', _⟩
    · have e : subL a b c d = leftL a b (itF a b c d) (itT a b c d) := by simp [subL, hv, k]
      rw [e]
      generalize itF a b c d = x at r
      generalize itT a b c d = y at r
      unfold leftL
      by_cases hl : a < x <;> by_cases hr : y < b
      · rw [if_pos hl, if_pos hr]
        refine ⟨NF.cons (p := (a, x)) (by simp only; omega) (NF.one (by omega) (by omega) (by omega)) (fun q hq => by simp at hq; subst hq; simp only; omega), fun t => ?_, fun p hp => ?_⟩
        · rw [Bool.eq_iff_iff]; simp only [List.cons_append, List.nil_append, memB_cons, memB_nil, Bool.or_false, Bool.or_eq_true, Bool.and_eq_true, Bool.not_eq_true', incB_yes, ← Bool.not_eq_true]; omega
        · simp at hp; rcases hp with rfl | rfl <;> simp only <;> omega
      · rw [if_pos hl, if_neg hr]
        refine ⟨NF.one (by omega) (by omega) (by omega), fun t => ?_, fun p hp => ?_⟩
        · rw [Bool.eq_iff_iff]; simp only [List.append_nil, memB_cons, memB_nil, Bool.or_false, Bool.and_eq_true, Bool.not_eq_true', incB_yes, ← Bool.not_eq_true]; omega
        · simp at hp; subst hp; simp only; omega
      · rw [if_neg hl, if_pos hr]
        refine ⟨NF.one (by omega) (by omega) (by omega), fun t => ?_, fun p hp => ?_⟩
        · rw [Bool.eq_iff_iff]; simp only [List.nil_append, memB_cons, memB_nil, Bool.or_false, Bool.and_eq_true, Bool.not_eq_true', incB_yes, ← Bool.not_eq_true]; omega
        · simp at hp; subst hp; simp only; omega
      · rw [if_neg hl, if_neg hr]
        refine ⟨NF.nil, fun t => ?_, fun p hp => absurd hp List.not_mem_nil⟩
        rw [Bool.eq_iff_iff]; simp only [List.nil_append, memB_nil, Bool.false_eq_true, false_iff, Bool.and_eq_true, Bool.not_eq_true', incB_yes, ← Bool.not_eq_true]; omega
    · rw [k] at e'; cases e'
/-- behind i periods of o, without [c, d) -/
structure DInv (o : List (Int × Int)) (c d : Int) (i : Nat) (r : List (Int × Int)) : Prop where
  nr : NF r
  mem : ∀ t, memB r t = (memB (o.take i) t && !incB c d t)
  bd : ∀ p ∈ r, ∃ q ∈ o.take i, p.2 ≤ q.2
theorem DInv.start (o : List (Int × Int)) (c d : Int) : DInv o c d 0 [] := ⟨NF.nil, fun _ => rfl, fun _ hp => absurd hp List.not_mem_nil⟩
theorem DInv.step {o r : List (Int × Int)} {a b c d : Int} {i : Nat} (ho : NF o) (hi : i < o.length) (e : o[i] = (a, b)) (h : DInv o c d i r) : DInv o c d (i + 1) (r ++ subL a b c d) := by
  have va := ho.1 o[i] (List.getElem_mem _)
  have ta := take_lt ho hi
  rw [e] at va ta
  simp only at va ta
  obtain ⟨s1, s2, s3⟩ := subL_spec c d va
  refine ⟨h.nr.append s1 (fun p hp q hq => ?_), fun t => ?_, fun p hp => ?_⟩
  · obtain ⟨p', hp', hle⟩ := h.bd p hp
    have h1 := ta p' hp'
    have h2 := s3 q hq
    omega
  · rw [memB_append, h.mem, s2, memB_take hi, e]
    simp only
    cases memB (o.take i) t <;> cases incB a b t <;> cases incB c d t <;> rfl
  · rw [List.take_succ_eq_append_getElem hi, e]
    rcases List.mem_append.1 hp with hp | hp
    · obtain ⟨q, hq, h1⟩ := h.bd p hp
      exact ⟨q, List.mem_append_left _ hq, h1⟩
    · exact ⟨(a, b), List.mem_append_right _ List.mem_cons_self, (s3 p hp).2⟩
theorem DInv.done {o r : List (Int × Int)} {c d : Int} (h : DInv o c d o.length r) : NF r ∧ ∀ t, memB r t = (memB o t && !incB c d t) := by
  have hall : o.take o.length = o := List.take_length
  exact ⟨h.nr, fun t => by rw [h.mem, hall]⟩
end Go.Proofs.Ytckknhocmbhmhaa
