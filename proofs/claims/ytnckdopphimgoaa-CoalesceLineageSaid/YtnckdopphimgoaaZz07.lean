/- Sets of points of time «as» rows of periods, in plain lists: membership, normal form, uniqueness of the normal form, length. -/
import Derived.Test.YtnckdopphimgoaaZz06
namespace Go.Proofs.Ytnckdopphimgoaa

/-- some valid period of the row includes the point -/
def memB (l : List (Int × Int)) (t : Int) : Bool := l.any fun p => incB p.1 p.2 t
theorem memB_nil (t : Int) : memB [] t = false := rfl
theorem memB_cons (p : Int × Int) (l : List (Int × Int)) (t : Int) : memB (p :: l) t = (incB p.1 p.2 t || memB l t) := rfl
theorem memB_append (l m : List (Int × Int)) (t : Int) : memB (l ++ m) t = (memB l t || memB m t) := by simp [memB]
theorem memB_iff {l : List (Int × Int)} {t : Int} : memB l t = true ↔ ∃ p ∈ l, (0 ≤ p.1 ∧ p.1 < p.2 ∧ p.2 ≤ 1099511627776) ∧ p.1 ≤ t ∧ t < p.2 := by
  simp [memB, incB, okV]
theorem incB_yes {a b t : Int} : incB a b t = true ↔ (0 ≤ a ∧ a < b ∧ b ≤ 1099511627776) ∧ a ≤ t ∧ t < b := by simp [incB, okV]
theorem memB_perm {l m : List (Int × Int)} (h : l.Perm m) (t : Int) : memB l t = memB m t := by
  rw [Bool.eq_iff_iff, memB_iff, memB_iff]
  exact ⟨fun ⟨p, hp, r⟩ => ⟨p, h.mem_iff.1 hp, r⟩, fun ⟨p, hp, r⟩ => ⟨p, h.mem_iff.2 hp, r⟩⟩
theorem memB_filter (l : List (Int × Int)) (t : Int) : memB (l.filter fun p => okV p.1 p.2) t = memB l t := by
  rw [Bool.eq_iff_iff, memB_iff, memB_iff]
  constructor
  · rintro ⟨p, hp, r⟩; exact ⟨p, (List.mem_filter.1 hp).1, r⟩
  · rintro ⟨p, hp, r⟩; exact ⟨p, List.mem_filter.2 ⟨hp, (okV_iff _ _).2 r.1⟩, r⟩

/-- the normal form: valid periods, each behind a gap -/
def NF (l : List (Int × Int)) : Prop := (∀ p ∈ l, 0 ≤ p.1 ∧ p.1 < p.2 ∧ p.2 ≤ 1099511627776) ∧ l.Pairwise fun p q => p.2 < q.1
theorem NF.nil : NF [] := ⟨fun _ h => absurd h List.not_mem_nil, List.Pairwise.nil⟩
theorem NF.tail {p : Int × Int} {l : List (Int × Int)} (h : NF (p :: l)) : NF l := ⟨fun q hq => h.1 q (List.mem_cons_of_mem _ hq), (List.pairwise_cons.1 h.2).2⟩
theorem NF.head {p : Int × Int} {l : List (Int × Int)} (h : NF (p :: l)) : 0 ≤ p.1 ∧ p.1 < p.2 ∧ p.2 ≤ 1099511627776 := h.1 p List.mem_cons_self
theorem NF.gap {p : Int × Int} {l : List (Int × Int)} (h : NF (p :: l)) : ∀ q ∈ l, p.2 < q.1 := (List.pairwise_cons.1 h.2).1
theorem NF.cons {p : Int × Int} {l : List (Int × Int)} (hp : 0 ≤ p.1 ∧ p.1 < p.2 ∧ p.2 ≤ 1099511627776) (h : NF l) (hg : ∀ q ∈ l, p.2 < q.1) : NF (p :: l) :=
  ⟨fun q hq => by rcases List.mem_cons.1 hq with rfl | hq <;> first | exact hp | exact h.1 q hq, List.pairwise_cons.2 ⟨hg, h.2⟩⟩
theorem NF.sub {l m : List (Int × Int)} (h : NF m) (s : l.Sublist m) : NF l := ⟨fun p hp => h.1 p (s.subset hp), h.2.sublist s⟩
theorem NF.take {l : List (Int × Int)} (h : NF l) (k : Nat) : NF (l.take k) := h.sub (List.take_sublist _ _)
theorem NF.drop {l : List (Int × Int)} (h : NF l) (k : Nat) : NF (l.drop k) := h.sub (List.drop_sublist _ _)
theorem NF.append {l m : List (Int × Int)} (h : NF l) (k : NF m) (g : ∀ p ∈ l, ∀ q ∈ m, p.2 < q.1) : NF (l ++ m) :=
  ⟨fun p hp => by rcases List.mem_append.1 hp with hp | hp <;> first | exact h.1 p hp | exact k.1 p hp, List.pairwise_append.2 ⟨h.2, k.2, g⟩⟩
theorem NF.one {a b : Int} (h : 0 ≤ a) (k : a < b) (j : b ≤ 1099511627776) : NF [(a, b)] := NF.cons ⟨h, k, j⟩ NF.nil (fun _ h => absurd h List.not_mem_nil)
theorem NF.snoc {l : List (Int × Int)} {a b : Int} (h : NF l) (k : 0 ≤ a ∧ a < b ∧ b ≤ 1099511627776) (g : ∀ p ∈ l, p.2 < a) : NF (l ++ [(a, b)]) :=
  h.append (NF.one k.1 k.2.1 k.2.2) (fun p hp q hq => by simp at hq; subst hq; exact g p hp)
/-- what stands behind in a row lies behind -/
theorem NF.after {p : Int × Int} {l : List (Int × Int)} (h : NF (p :: l)) {t : Int} (hm : memB l t = true) : p.2 < t := by
  obtain ⟨q, hq, r⟩ := memB_iff.1 hm
  have := h.gap q hq
  omega
theorem NF.before {l m : List (Int × Int)} (h : NF (l ++ m)) {p q : Int × Int} (hp : p ∈ l) (hq : q ∈ m) : p.2 < q.1 := (List.pairwise_append.1 h.2).2.2 p hp q hq
/-- a row in normal form is not longer than half the points that there are -/
theorem nf_len_from {l : List (Int × Int)} (h : NF l) {s : Int} (hs : ∀ p ∈ l, s ≤ p.1) : (l.length : Int) * 2 + s ≤ 1099511627777 ∨ l = [] := by
  induction l generalizing s with
  | nil => exact Or.inr rfl
  | cons p l ih =>
    left
    have h0 := h.head
    have h1 := hs p List.mem_cons_self
    rcases ih h.tail (s := p.2 + 1) (fun q hq => by have := h.gap q hq; omega) with e | rfl
    · simp only [List.length_cons]; omega
    · simp; omega
theorem NF.len {l : List (Int × Int)} (h : NF l) : l.length ≤ 549755813889 := by
  rcases nf_len_from h (s := 0) (fun p hp => (h.1 p hp).1) with e | rfl
  · omega
  · simp

/-- two rows in normal form with the same points are equal -/
theorem nf_unique {l m : List (Int × Int)} (h : NF l) (k : NF m) (e : ∀ t, memB l t = memB m t) : l = m := by
  induction l generalizing m with
  | nil =>
    cases m with
    | nil => rfl
    | cons q m =>
      have := e q.1
      rw [memB_nil, memB_cons, (incB_yes (t := q.1)).2 ⟨k.head, by have := k.head; omega⟩] at this
      simp at this
  | cons p l ih =>
    cases m with
    | nil =>
      have := e p.1
      rw [memB_nil, memB_cons, (incB_yes (t := p.1)).2 ⟨h.head, by have := h.head; omega⟩] at this
      simp at this
    | cons q m =>
      have hp := h.head
      have hq := k.head
      have m1 : ∀ t, memB (p :: l) t = true → p.1 ≤ t := by
        intro t ht
        rw [memB_cons, Bool.or_eq_true] at ht
        rcases ht with ht | ht
        · have := incB_yes.1 ht; omega
        · have := h.after ht; omega
      have m2 : ∀ t, memB (q :: m) t = true → q.1 ≤ t := by
        intro t ht
        rw [memB_cons, Bool.or_eq_true] at ht
        rcases ht with ht | ht
        · have := incB_yes.1 ht; omega
        · have := k.after ht; omega
      have a1 : memB (p :: l) p.1 = true := by rw [memB_cons, incB_yes.2 ⟨hp, by omega⟩]; rfl
      have a2 : memB (q :: m) q.1 = true := by rw [memB_cons, incB_yes.2 ⟨hq, by omega⟩]; rfl
      have e1 : p.1 = q.1 := by
        have b1 := m2 _ (by rw [← e]; exact a1)
        have b2 := m1 _ (by rw [e]; exact a2)
        omega
      have out1 : ∀ t, p.2 ≤ t → t ≤ p.2 → memB (p :: l) t = false := by
        intro t t1 t2
        rw [← Bool.not_eq_true]
        intro ht
        rw [memB_cons, Bool.or_eq_true] at ht
        rcases ht with ht | ht
        · have := incB_yes.1 ht; omega
        · have := h.after ht; omega
      have out2 : ∀ t, q.2 ≤ t → t ≤ q.2 → memB (q :: m) t = false := by
        intro t t1 t2
        rw [← Bool.not_eq_true]
        intro ht
        rw [memB_cons, Bool.or_eq_true] at ht
        rcases ht with ht | ht
        · have := incB_yes.1 ht; omega
        · have := k.after ht; omega
      have e2 : p.2 = q.2 := by
        rcases Int.lt_trichotomy p.2 q.2 with c | c | c
        · have c1 := out1 p.2 (by omega) (by omega)
          rw [e, memB_cons, incB_yes.2 ⟨hq, by omega⟩] at c1
          simp at c1
        · exact c
        · have c1 := out2 q.2 (by omega) (by omega)
          rw [← e, memB_cons, incB_yes.2 ⟨hp, by omega⟩] at c1
          simp at c1
      have epq : p = q := Prod.ext e1 e2
      subst epq
      rw [ih h.tail k.tail (fun t => ?_)]
      have et := e t
      rw [memB_cons, memB_cons] at et
      cases hi : incB p.1 p.2 t
      · rw [hi] at et; simpa using et
      · have hi' := incB_yes.1 hi
        have n1 : memB l t = false := by rw [← Bool.not_eq_true]; intro ht; have := h.after ht; omega
        have n2 : memB m t = false := by rw [← Bool.not_eq_true]; intro ht; have := k.after ht; omega
        rw [n1, n2]

/-- the sum of the lengths -/
def lenL (l : List (Int × Int)) : Int := (l.map fun p => p.2 - p.1).sum
theorem lenL_cons (p : Int × Int) (l : List (Int × Int)) : lenL (p :: l) = p.2 - p.1 + lenL l := rfl
theorem lenL_append (l m : List (Int × Int)) : lenL (l ++ m) = lenL l + lenL m := by simp [lenL]
theorem lenL_from {l : List (Int × Int)} (h : NF l) {s : Int} (hs : ∀ p ∈ l, s ≤ p.1) : 0 ≤ lenL l ∧ (lenL l + s ≤ 1099511627776 ∨ l = []) := by
  induction l generalizing s with
  | nil => exact ⟨Int.le_refl _, Or.inr rfl⟩
  | cons p l ih =>
    have h0 := h.head
    have h1 := hs p List.mem_cons_self
    obtain ⟨i0, i1⟩ := ih h.tail (s := p.2) (fun q hq => by have := h.gap q hq; omega)
    rw [lenL_cons]
    refine ⟨by omega, Or.inl ?_⟩
    rcases i1 with i1 | rfl
    · omega
    · simp [lenL]; omega
theorem lenL_bd {l : List (Int × Int)} (h : NF l) : 0 ≤ lenL l ∧ lenL l ≤ 1099511627776 := by
  obtain ⟨a, b⟩ := lenL_from h (s := 0) (fun p hp => (h.1 p hp).1)
  refine ⟨a, ?_⟩
  rcases b with b | rfl
  · omega
  · simp [lenL]
/-- the number of points below n -/
def cntB (P : Int → Bool) : Nat → Int
  | 0 => 0
  | n + 1 => cntB P n + if P n = true then 1 else 0
theorem cntB_eq {P Q : Int → Bool} (n : Nat) (h : ∀ t, P t = Q t) : cntB P n = cntB Q n := by
  induction n with
  | zero => rfl
  | succ n ih => simp only [cntB, ih, h]
theorem cntB_union (P Q : Int → Bool) (n : Nat) : cntB (fun t => P t || Q t) n + cntB (fun t => P t && Q t) n = cntB P n + cntB Q n := by
  induction n with
  | zero => rfl
  | succ n ih => simp only [cntB]; rcases Bool.eq_false_or_eq_true (P n) with h1 | h1 <;> rcases Bool.eq_false_or_eq_true (Q n) with h2 | h2 <;> simp [h1, h2] <;> omega
theorem cntB_none {P : Int → Bool} (n : Nat) (h : ∀ t, P t = false) : cntB P n = 0 := by
  induction n with
  | zero => rfl
  | succ n ih => simp [cntB, ih, h]
/-- the points of one period below n -/
theorem cntB_one (a b : Int) (h : 0 ≤ a ∧ a < b ∧ b ≤ 1099511627776) (n : Nat) : cntB (fun t => incB a b t) n = if (n : Int) ≤ a then 0 else if (n : Int) ≤ b then n - a else b - a := by
  induction n with
  | zero => simp [cntB, h.1]
  | succ n ih =>
    simp only [cntB, ih]
    have hn : ((n + 1 : Nat) : Int) = (n : Int) + 1 := by omega
    rw [hn]
    by_cases c : (a ≤ (n : Int) ∧ (n : Int) < b)
    · rw [if_pos (incB_yes.2 ⟨h, c⟩)]
      (repeat' split) <;> omega
    · rw [if_neg (fun hh => c (incB_yes.1 hh).2)]
      (repeat' split) <;> omega
theorem lenL_cnt {l : List (Int × Int)} (h : NF l) : lenL l = cntB (memB l) 1099511627776 := by
  induction l with
  | nil => exact (cntB_none (P := memB []) _ (fun _ => rfl)).symm
  | cons p l ih =>
    have hu := cntB_union (fun t => incB p.1 p.2 t) (memB l) 1099511627776
    have h0 : cntB (fun t => incB p.1 p.2 t && memB l t) 1099511627776 = 0 := by
      apply cntB_none
      intro t
      rw [← Bool.not_eq_true]
      intro ht
      rw [Bool.and_eq_true] at ht
      have := h.after ht.2
      have := incB_yes.1 ht.1
      omega
    have h1 := cntB_one p.1 p.2 h.head 1099511627776
    rw [if_neg (by have := h.head; omega)] at h1
    rw [lenL_cons, ih h.tail, cntB_eq (P := memB (p :: l)) (Q := fun t => incB p.1 p.2 t || memB l t) _ (fun t => memB_cons p l t)]
    have h2 : (if ((1099511627776 : Nat) : Int) ≤ p.2 then ((1099511627776 : Nat) : Int) - p.1 else p.2 - p.1) = p.2 - p.1 := by
      have := h.head
      split <;> omega
    rw [h2] at h1
    omega
theorem len_sum {a b u i : List (Int × Int)} (ha : NF a) (hb : NF b) (hu : NF u) (hi : NF i) (eu : ∀ t, memB u t = (memB a t || memB b t)) (ei : ∀ t, memB i t = (memB a t && memB b t)) :
    lenL u + lenL i = lenL a + lenL b := by
  rw [lenL_cnt ha, lenL_cnt hb, lenL_cnt hu, lenL_cnt hi, cntB_eq _ eu, cntB_eq _ ei]
  exact cntB_union _ _ _

/-- the test of the normal form, index by index -/
def okAt (l : List (Int × Int)) (i : Nat) : Bool := match l[i]? with
  | none => true
  | some p => okV p.1 p.2 && (match i with | 0 => true | j + 1 => match l[j]? with | none => true | some q => decide (q.2 < p.1))
def nfB (l : List (Int × Int)) : Bool := (List.range l.length).all (okAt l)
theorem nfB_no {l : List (Int × Int)} {k : Nat} (h : k < l.length) (e : okAt l k = false) : nfB l = false := by
  rw [← Bool.not_eq_true]
  intro ha
  have := List.all_eq_true.1 ha k (List.mem_range.2 h)
  rw [e] at this
  cases this
theorem nfB_yes {l : List (Int × Int)} (h : ∀ k, k < l.length → okAt l k = true) : nfB l = true := List.all_eq_true.2 (fun k hk => h k (List.mem_range.1 hk))
theorem okAt_zero {l : List (Int × Int)} (h : 0 < l.length) : okAt l 0 = okV l[0].1 l[0].2 := by
  unfold okAt
  rw [List.getElem?_eq_getElem h]
  simp
theorem okAt_succ {l : List (Int × Int)} {j : Nat} (h : j + 1 < l.length) : okAt l (j + 1) = (okV l[j + 1].1 l[j + 1].2 && decide (l[j].2 < l[j + 1].1)) := by
  unfold okAt
  rw [List.getElem?_eq_getElem h]
  simp only
  rw [List.getElem?_eq_getElem (by omega : j < l.length)]
theorem NF.check {l : List (Int × Int)} (h : NF l) : nfB l = true := by
  refine nfB_yes fun k hk => ?_
  cases k with
  | zero => rw [okAt_zero hk]; exact (okV_iff _ _).2 (h.1 _ (List.getElem_mem _))
  | succ j =>
    rw [okAt_succ hk, (okV_iff _ _).2 (h.1 _ (List.getElem_mem _)), Bool.true_and]
    exact decide_eq_true (List.pairwise_iff_getElem.1 h.2 j (j + 1) (by omega) hk (by omega))
end Go.Proofs.Ytnckdopphimgoaa
