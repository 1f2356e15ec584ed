/- Texts of values, and keys, in plain lists. -/
import Derived.Test.YtejgmiljjpgbpaaDoorVlN
import Derived.Lib.Replace
namespace Go.Proofs.YtejgmiljjpgbpaaDoor

def nullL : List UInt8 := [110, 117, 108, 108]
def trueL : List UInt8 := [116, 114, 117, 101]
def falseL : List UInt8 := [102, 97, 108, 115, 101]
def dbl : List UInt8 → List UInt8
  | [] => []
  | c :: r => if c = 39 then 39 :: 39 :: dbl r else c :: dbl r
def fmtV (v : V) : List UInt8 :=
  if vldB v = true then (if v.k = 0 then nullL else if v.k = 1 then Lib.itoa v.n else if v.k = 3 then (if v.n = 1 then trueL else falseL) else 39 :: (dbl v.s ++ [39])) else []
def unq : List UInt8 → Option (List UInt8)
  | [] => some []
  | [c] => if c = 39 then none else some [c]
  | c :: d :: r => if c = 39 then (if d = 39 then (unq r).map (39 :: ·) else none) else (unq (d :: r)).map (c :: ·)
def qin : List UInt8 → Option (List UInt8)
  | [] => none
  | c :: r => if c = 39 ∧ r.getLast? = some 39 then some r.dropLast else none
def txtV (l : List UInt8) : V × Int :=
  match qin l with
  | none => (⟨0, 0, []⟩, 5)
  | some i => match unq i with
    | none => (⟨0, 0, []⟩, 5)
    | some s => if s.length ≤ 200 then (⟨2, 0, s⟩, 0) else (⟨0, 0, []⟩, 4)
def intV (l : List UInt8) : V × Int :=
  match numV l with
  | some n => (⟨1, n, []⟩, 0)
  | none => (⟨0, 0, []⟩, 10)
def prsV (l : List UInt8) : V × Int :=
  if l = nullL then (⟨0, 0, []⟩, 0) else if l = trueL then (⟨3, 1, []⟩, 0) else if l = falseL then (⟨3, 0, []⟩, 0)
  else if numF l = true then intV l else txtV l

theorem unq_ne (c : UInt8) (r : List UInt8) (h : c ≠ 39) : unq (c :: r) = (unq r).map (c :: ·) := by
  cases r with
  | nil => simp [unq, h]
  | cons d r => rw [unq, if_neg h]
theorem unq_two (r : List UInt8) : unq (39 :: 39 :: r) = (unq r).map (39 :: ·) := by rw [unq, if_pos rfl, if_pos rfl]
theorem unq_one : unq [39] = none := by simp [unq]
theorem unq_bad (d : UInt8) (r : List UInt8) (h : d ≠ 39) : unq (39 :: d :: r) = none := by rw [unq, if_pos rfl, if_neg h]
theorem unq_dbl : ∀ s, unq (dbl s) = some s
  | [] => rfl
  | c :: r => by
    have ih := unq_dbl r
    unfold dbl
    by_cases h : c = 39
    · rw [if_pos h, unq_two, ih, h]; rfl
    · rw [if_neg h, unq_ne c _ h, ih]; rfl
theorem dbl_unq (n : Nat) : ∀ l s, l.length ≤ n → unq l = some s → dbl s = l := by
  induction n with
  | zero =>
    intro l s hl h
    obtain rfl : l = [] := List.length_eq_zero_iff.1 (by omega)
    simp [unq] at h; subst h; rfl
  | succ n ih =>
    intro l s hl h
    cases l with
    | nil => simp [unq] at h; subst h; rfl
    | cons c r =>
      by_cases hc : c = 39
      · subst hc
        cases r with
        | nil => simp [unq] at h
        | cons d r =>
          by_cases hd : d = 39
          · subst hd
            rw [unq_two] at h
            cases hu : unq r with
            | none => rw [hu] at h; cases h
            | some t =>
              rw [hu] at h
              simp only [Option.map_some, Option.some.injEq] at h
              subst h
              rw [dbl, if_pos rfl, ih r t (by simp at hl; omega) hu]
          · rw [unq_bad d r hd] at h; cases h
      · rw [unq_ne c r hc] at h
        cases hu : unq r with
        | none => rw [hu] at h; cases h
        | some t =>
          rw [hu] at h
          simp only [Option.map_some, Option.some.injEq] at h
          subst h
          rw [dbl, if_neg hc, ih r t (by simp at hl; omega) hu]
theorem dbl_len (s : List UInt8) : s.length ≤ (dbl s).length ∧ (dbl s).length ≤ 2 * s.length := by
  induction s with
  | nil => exact ⟨Nat.le_refl _, Nat.le_refl _⟩
  | cons c r ih => unfold dbl; split <;> (simp only [List.length_cons]; omega)
theorem dbl_app (a b : List UInt8) : dbl (a ++ b) = dbl a ++ dbl b := by
  induction a with
  | nil => rfl
  | cons c r ih => rw [List.cons_append, dbl, dbl]; split <;> simp [ih]
theorem qin_of (i : List UInt8) : qin (39 :: (i ++ [39])) = some i := by simp [qin]
theorem of_qin (l i : List UInt8) (h : qin l = some i) : l = 39 :: (i ++ [39]) := by
  cases l with
  | nil => cases h
  | cons c r =>
    by_cases hc : c = 39 ∧ r.getLast? = some 39
    · rw [qin, if_pos hc] at h
      obtain ⟨rfl, hl⟩ := hc
      injection h with h
      subst h
      rw [List.getLast?_eq_some_iff] at hl
      obtain ⟨ys, rfl⟩ := hl
      simp
    · rw [qin, if_neg hc] at h; exact absurd h (by simp)
theorem qt_not_num (i : List UInt8) : numF (39 :: i) = false := by
  have : Lib.trimPrefix (39 :: i) [45] = 39 :: i := by simp [Lib.trimPrefix, Lib.hasPrefix]
  unfold numF
  rw [this]
  have : digs (39 :: i) = false := by
    cases hd : digs (39 :: i) with
    | false => rfl
    | true => have := ((digs_cons _ _).1 hd).1; simp [isDig] at this
  rw [this]; rfl
theorem num_not_word (l : List UInt8) (h : numF l = true) : l ≠ nullL ∧ l ≠ trueL ∧ l ≠ falseL :=
  ⟨fun e => by rw [e] at h; revert h; decide, fun e => by rw [e] at h; revert h; decide, fun e => by rw [e] at h; revert h; decide⟩
theorem prs_num (l : List UInt8) (h : numF l = true) : prsV l = intV l := by
  obtain ⟨h1, h2, h3⟩ := num_not_word l h
  unfold prsV; rw [if_neg h1, if_neg h2, if_neg h3, if_pos h]
theorem prs_qt (i : List UInt8) : prsV (39 :: i) = txtV (39 :: i) := by
  unfold prsV
  rw [if_neg (by unfold nullL; simp), if_neg (by unfold trueL; simp), if_neg (by unfold falseL; simp), if_neg (by rw [qt_not_num]; decide)]
theorem prs_fmt (v : V) (h : vldB v = true) (h0 : -9223372036854775808 ≤ v.n) (h1 : v.n ≤ 9223372036854775807) : prsV (fmtV v) = (v, 0) := by
  unfold fmtV
  rw [if_pos h]
  obtain ⟨k, n, s⟩ := v
  unfold vldB at h
  simp only [decide_eq_true_eq] at h h0 h1 ⊢
  rcases h with ⟨rfl, rfl, rfl⟩ | ⟨rfl, rfl⟩ | ⟨rfl, rfl, hs⟩ | ⟨rfl, rfl | rfl, rfl⟩
  · rfl
  · rw [if_neg (by decide), if_pos rfl, prs_num _ (numF_itoa n)]; unfold intV; rw [numV_itoa n h0 h1]
  · rw [if_neg (by decide), if_neg (by decide), if_neg (by decide), prs_qt]; unfold txtV; simp only [qin_of, unq_dbl]; rw [if_pos hs]
  · rfl
  · rfl
theorem fmt_prs (l : List UInt8) (h : (prsV l).2 = 0) : vldB (prsV l).1 = true ∧ fmtV (prsV l).1 = l := by
  by_cases h1 : l = nullL
  · subst h1; exact ⟨by decide, by decide⟩
  by_cases h2 : l = trueL
  · subst h2; exact ⟨by decide, by decide⟩
  by_cases h3 : l = falseL
  · subst h3; exact ⟨by decide, by decide⟩
  by_cases h4 : numF l = true
  · rw [prs_num l h4] at h ⊢
    unfold intV at h ⊢
    cases hv : numV l with
    | none => rw [hv] at h; simp at h
    | some n =>
      have := (itoa_numV l n h4 hv).1
      have hw : vldB ⟨1, n, []⟩ = true := by unfold vldB; simp
      refine ⟨hw, ?_⟩
      unfold fmtV
      rw [if_pos hw]
      simpa using this
  · have e : prsV l = txtV l := by unfold prsV; rw [if_neg h1, if_neg h2, if_neg h3, if_neg h4]
    rw [e] at h ⊢
    unfold txtV at h ⊢
    cases hq : qin l with
    | none => rw [hq] at h; simp at h
    | some i =>
      rw [hq] at h
      simp only at h ⊢
      cases hu : unq i with
      | none => rw [hu] at h; simp at h
      | some s =>
        rw [hu] at h
        simp only at h ⊢
        by_cases hl : s.length ≤ 200
        · rw [if_pos hl]
          have hw : vldB ⟨2, 0, s⟩ = true := by unfold vldB; simp [hl]
          refine ⟨hw, ?_⟩
          unfold fmtV
          rw [if_pos hw, of_qin l i hq, ← dbl_unq _ i s (Nat.le_refl _) hu]
          simp
        · rw [if_neg hl] at h; simp at h
theorem prs_err (l : List UInt8) : (prsV l).2 = 0 ∨ (prsV l).1 = ⟨0, 0, []⟩ := by
  unfold prsV intV txtV
  split
  · exact Or.inl rfl
  split
  · exact Or.inl rfl
  split
  · exact Or.inl rfl
  split
  · split
    · exact Or.inl rfl
    · exact Or.inr rfl
  · split
    · exact Or.inr rfl
    · split
      · exact Or.inr rfl
      · split
        · exact Or.inl rfl
        · exact Or.inr rfl
theorem replaceK_dbl : ∀ s : List UInt8, Lib.replaceK [39] [39, 39] (s.count 39) s = dbl s
  | [] => rfl
  | c :: r => by
    have ih := replaceK_dbl r
    by_cases hc : c = 39
    · subst hc
      rw [List.count_cons_self, Lib.replaceK_hit _ _ _ _ 0 (by simp [Lib.index]), dbl, if_pos rfl]
      simp [ih]
    · have hcnt : (c :: r).count 39 = r.count 39 := by rw [List.count_cons_of_ne]; exact hc
      rw [hcnt, dbl, if_neg hc]
      cases hk : r.count 39 with
      | zero => rw [hk] at ih; simp only [Lib.replaceK] at ih ⊢; rw [← ih]
      | succ m =>
        obtain ⟨i, hi⟩ := Lib.index_of_count (s := r) (old := [39]) (by rw [Lib.count_one, hk]; omega)
        have hi' : Lib.index (c :: r) [39] = ((i + 1 : Nat) : Int) := by
          rw [Lib.index, if_neg (by simp [Ne.symm hc]), hi, if_neg (by simp), Int.natCast_add]; rfl
        rw [hk, Lib.replaceK_hit _ _ m r i hi] at ih
        rw [Lib.replaceK_hit _ _ m (c :: r) (i + 1) hi', ← ih]
        simp
theorem replace_dbl (s : List UInt8) : Lib.replaceAll s [39] [39, 39] = dbl s := by
  unfold Lib.replaceAll Lib.replace Lib.replaceNum
  rw [if_neg (by decide), if_pos (Or.inl (by decide)), Lib.count_one]
  exact replaceK_dbl s

def keyL : List V → List UInt8
  | [] => []
  | v :: r => Lib.itoa v.k ++ 44 :: (Lib.itoa v.n ++ 44 :: (Lib.itoa v.s.length ++ 58 :: (v.s ++ keyL r)))
theorem keyL_app (a b : List V) : keyL (a ++ b) = keyL a ++ keyL b := by
  induction a with
  | nil => rfl
  | cons v r ih => simp [keyL, ih]
theorem keyL_snoc (a : List V) (v : V) : keyL (a ++ [v]) = keyL a ++ Lib.itoa v.k ++ [44] ++ Lib.itoa v.n ++ [44] ++ Lib.itoa v.s.length ++ [58] ++ v.s := by
  rw [keyL_app]; simp [keyL]
theorem cut_at (c : UInt8) : ∀ x y r t : List UInt8, c ∉ x → c ∉ y → x ++ c :: r = y ++ c :: t → x = y ∧ r = t
  | [], [], r, t, _, _, h => by simpa using h
  | [], b :: y, r, t, _, hy, h => by simp at h; exact absurd (by rw [h.1]; simp) hy
  | a :: x, [], r, t, hx, _, h => by simp at h; exact absurd (by rw [h.1]; simp) hx
  | a :: x, b :: y, r, t, hx, hy, h => by
    simp only [List.cons_append, List.cons.injEq] at h
    obtain ⟨rfl, h⟩ := h
    have := cut_at c x y r t (fun m => hx (List.mem_cons_of_mem _ m)) (fun m => hy (List.mem_cons_of_mem _ m)) h
    exact ⟨by rw [this.1], this.2⟩
theorem itoa_no (n : Int) (c : UInt8) (h : isDig c = false) (h2 : c ≠ 45) : c ∉ Lib.itoa n := by
  intro m
  rcases itoa_chars n c m with e | e
  · rw [h] at e; cases e
  · exact h2 e
theorem key_inj : ∀ a b : List V, keyL a = keyL b → a = b
  | [], [], _ => rfl
  | [], v :: r, h => by
    have := congrArg List.length h
    simp [keyL] at this
  | v :: r, [], h => by
    have := congrArg List.length h
    simp [keyL] at this
  | v :: r, u :: t, h => by
    unfold keyL at h
    obtain ⟨e1, h⟩ := cut_at 44 _ _ _ _ (itoa_no _ _ (by decide) (by decide)) (itoa_no _ _ (by decide) (by decide)) h
    obtain ⟨e2, h⟩ := cut_at 44 _ _ _ _ (itoa_no _ _ (by decide) (by decide)) (itoa_no _ _ (by decide) (by decide)) h
    obtain ⟨e3, h⟩ := cut_at 58 _ _ _ _ (itoa_no _ _ (by decide) (by decide)) (itoa_no _ _ (by decide) (by decide)) h
    have e3 := itoa_inj _ _ e3
    obtain ⟨e4, h⟩ := List.append_inj h (by omega)
    rw [key_inj r t h]
    obtain ⟨vk, vn, vs⟩ := v
    obtain ⟨uk, un, us⟩ := u
    simp only at e1 e2 e4
    rw [itoa_inj _ _ e1, itoa_inj _ _ e2, e4]
theorem key_split (s : List UInt8) (a b : Nat) (ha : a ≤ s.length) (hb : b ≤ s.length) : (keyL [⟨2, 0, s.take a⟩, ⟨2, 0, s.drop a⟩] = keyL [⟨2, 0, s.take b⟩, ⟨2, 0, s.drop b⟩]) ↔ a = b := by
  constructor
  · intro h
    have := key_inj _ _ h
    simp only [List.cons.injEq, V.mk.injEq, true_and, and_true] at this
    have := congrArg List.length this.1
    simp at this
    omega
  · rintro rfl; rfl
end Go.Proofs.YtejgmiljjpgbpaaDoor
