/- Texts of values, and keys, in plain lists. -/
import Derived.Lib.Replace
import Derived.Test.YtbplapkcleipiaaGreatDoorZz02
import Derived.Test.YtbplapkcleipiaaGreatDoorZz03
import Derived.Test.YtbplapkcleipiaaGreatDoorZz04
import Derived.Test.YtbplapkcleipiaaGreatDoorZz05
namespace Go.Proofs.YtbplapkcleipiaaGreatDoor

def nullL : List UInt8 := [110, 117, 108, 108]
def trueL : List UInt8 := [116, 114, 117, 101]
def falseL : List UInt8 := [102, 97, 108, 115, 101]
def dbl : List UInt8 → List UInt8
  | [] => []
  | c :: r => if c = 39 then 39 :: 39 :: dbl r else c :: dbl r
def fmtV (v : V) : List UInt8 :=
  if vldB v = true then (if v.k = 0 then nullL else if v.k = 1 then Lib.itoa v.n else if v.k = 3 then (if v.n = 1 then trueL else falseL) else 39 :: (dbl v.s ++ [39])) else []
def unq : List UInt8 → Option (List UInt8)
  | [] => some []
  | [c] => if c = 39 then none else some [c]
  | c :: d :: r => if c = 39 then (if d = 39 then (unq r).map (39 :: ·) else none) else (unq (d :: r)).map (c :: ·)
def qin : List UInt8 → Option (List UInt8)
  | [] => none
  | c :: r => if c = 39 ∧ r.getLast? = some 39 then some r.dropLast else none
def txtV (l : List UInt8) : V × Int :=
  match qin l with
  | none => (⟨0, 0, []⟩, 5)
  | some i => match unq i with
    | none => (⟨0, 0, []⟩, 5)
    | some s => if s.length ≤ 200 then (⟨2, 0, s⟩, 0) else (⟨0, 0, []⟩, 4)
def intV (l : List UInt8) : V × Int :=
  match numT l with
  | some n => (⟨1, n, []⟩, 0)
  | none => (⟨0, 0, []⟩, 10)
def prsV (l : List UInt8) : V × Int :=
  if l = nullL then (⟨0, 0, []⟩, 0) else if l = trueL then (⟨3, 1, []⟩, 0) else if l = falseL then (⟨3, 0, []⟩, 0)
  else if numF l = true then intV l else txtV l

theorem unq_ne (c : UInt8) (r : List UInt8) (h : c ≠ 39) : unq (c :: r) = (unq r).map (c :: ·) := by
  cases r with
  | nil => simp [unq, h]
  | cons d r => rw [unq, if_neg h]
theorem unq_two (r : List UInt8) : unq (39 :: 39 :: r) = (unq r).map (39 :: ·) := by rw [unq, if_pos rfl, if_pos rfl]
theorem unq_one : unq [39] = none := by simp [unq]
theorem unq_bad (d : UInt8) (r : List UInt8) (h : d ≠ 39) : unq (39 :: d :: r) = none := by rw [unq, if_pos rfl, if_neg h]
theorem unq_dbl : ∀ s, unq (dbl s) = some s
  | [] => rfl
  | c :: r => by
    have ih := unq_dbl r
    unfold dbl
    by_cases h : c = 39
    · rw [if_pos h, unq_two, ih, h]; rfl
    · rw [if_neg h, unq_ne c _ h, ih]; rfl
theorem dbl_unq (n : Nat) : ∀ l s, l.length ≤ n → unq l = some s → dbl s = l := by
  induction n with
  | zero =>
    intro l s hl h
    obtain rfl : l = [] := List.length_eq_zero_iff.1 (by omega)
    simp [unq] at h; subst h; rfl
  | succ n ih =>
    intro l s hl h
    cases l with
    | nil => simp [unq] at h; subst h; rfl
    | cons c r =>
      by_cases hc : c = 39
      · subst hc
        cases r with
        | nil => simp [unq] at h
        | cons d r =>
          by_cases hd : d = 39
          · subst hd
            rw [unq_two] at h
            cases hu : unq r with
            | none => rw [hu] at h; cases h
            | some t =>
              rw [hu] at h
              simp only [Option.map_some, Option.some.injEq] at h
              subst h
              rw [dbl, if_pos rfl, ih r t (by simp at hl; omega) hu]
          · rw [unq_bad d r hd] at h; cases h
      · rw [unq_ne c r hc] at h
        cases hu : unq r with
        | none => rw [hu] at h; cases h
        | some t =>
          rw [hu] at h
          simp only [Option.map_some, Option.some.injEq] at h
          subst h
          rw [dbl, if_neg hc, ih r t (by simp at hl; omega) hu]
theorem dbl_len (s : List UInt8) : s.length ≤ (dbl s).length ∧ (dbl s).length ≤ 2 * s.length := by
  induction s with
  | nil => exact ⟨Nat.le_refl _, Nat.le_refl _⟩
  | cons c r ih => unfold dbl; split <;> (simp only [List.length_cons]; omega)
theorem dbl_app (a b : List UInt8) : dbl (a ++ b) = dbl a ++ dbl b := by
  induction a with
  | nil => rfl
  | cons c r ih => rw [List.cons_append, dbl, dbl]; split <;> simp [ih]
theorem qin_of (i : List UInt8) : qin (39 :: (i ++ [39])) = some i := by simp [qin]
theorem of_qin (l i : List UInt8) (h : qin l = some i) : l = 39 :: (i ++ [39]) := by
  cases l with
  | nil => cases h
  | cons c r =>
    by_cases hc : c = 39 ∧ r.getLast? = some 39
    · rw [qin, if_pos hc] at h
      obtain ⟨rfl, hl⟩ := hc
      injection h with h
      subst h
      rw [List.getLast?_eq_some_iff] at hl
      obtain ⟨ys, rfl⟩ := hl
      simp
    · rw [qin, if_neg hc] at h; exact absurd h (by simp)
theorem qt_not_num (i : List UInt8) : numF (39 :: i) = false := by
  have : Lib.trimPrefix (39 :: i) [45] = 39 :: i := by simp [Lib.trimPrefix, Lib.hasPrefix]
  unfold numF
  rw [this]
  have : digs (39 :: i) = false := by
    cases hd : digs (39 :: i) with
    | false => rfl
    | true => have := ((digs_cons _ _).1 hd).1; simp [isDig] at this
  rw [this]; rfl
theorem num_not_word (l : List UInt8) (h : numF l = true) : l ≠ nullL ∧ l ≠ trueL ∧ l ≠ falseL :=
  ⟨fun e => by rw [e] at h; revert h; decide, fun e => by rw [e] at h; revert h; decide, fun e => by rw [e] at h; revert h; decide⟩
theorem prs_num (l : List UInt8) (h : numF l = true) : prsV l = intV l := by
  obtain ⟨h1, h2, h3⟩ := num_not_word l h
  unfold prsV; rw [if_neg h1, if_neg h2, if_neg h3, if_pos h]
theorem prs_qt (i : List UInt8) : prsV (39 :: i) = txtV (39 :: i) := by
  unfold prsV
  rw [if_neg (by unfold nullL; simp), if_neg (by unfold trueL; simp), if_neg (by unfold falseL; simp), if_neg (by rw [qt_not_num]; decide)]
theorem prs_fmt (v : V) (h : vldB v = true) (h0 : -9223372036854775808 ≤ v.n) (h1 : v.n ≤ 9223372036854775807) : prsV (fmtV v) = (v, 0) := by
  unfold fmtV
  rw [if_pos h]
  obtain ⟨k, n, s⟩ := v
  unfold vldB at h
  simp only [decide_eq_true_eq] at h h0 h1 ⊢
  rcases h with ⟨rfl, rfl, rfl⟩ | ⟨rfl, rfl⟩ | ⟨rfl, rfl, hs⟩ | ⟨rfl, rfl | rfl, rfl⟩
  · rfl
  · rw [if_neg (by decide), if_pos rfl, prs_num _ (numF_itoa n)]; unfold intV; rw [numT_itoa n h0 h1]
  · rw [if_neg (by decide), if_neg (by decide), if_neg (by decide), prs_qt]; unfold txtV; simp only [qin_of, unq_dbl]; rw [if_pos hs]
  · rfl
  · rfl
theorem fmt_prs (l : List UInt8) (h : (prsV l).2 = 0) : vldB (prsV l).1 = true ∧ fmtV (prsV l).1 = l := by
  by_cases h1 : l = nullL
  · subst h1; exact ⟨by decide, by decide⟩
  by_cases h2 : l = trueL
  · subst h2; exact ⟨by decide, by decide⟩
  by_cases h3 : l = falseL
  · subst h3; exact ⟨by decide, by decide⟩
  by_cases h4 : numF l = true
  · rw [prs_num l h4] at h ⊢
    unfold intV at h ⊢
    cases hv : numT l with
    | none => rw [hv] at h; simp at h
    | some n =>
      have := (itoa_numV l n h4 hv).1
      have hw : vldB ⟨1, n, []⟩ = true := by unfold vldB; simp
      refine ⟨hw, ?_⟩
      unfold fmtV
      rw [if_pos hw]
      simpa using this
  · have e : prsV l = txtV l := by unfold prsV; rw [if_neg h1, if_neg h2, if_neg h3, if_neg h4]
    rw [e] at h ⊢
    unfold txtV at h ⊢
    cases hq : qin l with
    | none => rw [hq] at h; simp at h
    | some i =>
      rw [hq] at h
      simp only at h ⊢
      cases hu : unq i with
      | none => rw [hu] at h; simp at h
      | some s =>
        rw [hu] at h
        simp only at h ⊢
        by_cases hl : s.length ≤ 200
        · rw [if_pos hl]
          have hw : vldB ⟨2, 0, s⟩ = true := by unfold vldB; simp [hl]
          refine ⟨hw, ?_⟩
          unfold fmtV
          rw [if_pos hw, of_qin l i hq, ← dbl_unq _ i s (Nat.le_refl _) hu]
          simp
        · rw [if_neg hl] at h; simp at h
theorem prs_err (l : List UInt8) : (prsV l).2 = 0 ∨ (prsV l).1 = ⟨0, 0, []⟩ := by
  unfold prsV intV txtV
  split
  · exact Or.inl rfl
  split
  · exact Or.inl rfl
  split
  · exact Or.inl rfl
  split
  · split
    · exact Or.inl rfl
    · exact Or.inr rfl
  · split
    · exact Or.inr rfl
    · split
      · exact Or.inr rfl
      · split
        · exact Or.inl rfl
        · exact Or.inr rfl
theorem replaceK_dbl : ∀ s : List UInt8, Lib.replaceK [39] [39, 39] (s.count 39) s = dbl s
  | [] => rfl
  | c :: r => by
    have ih := replaceK_dbl r
    by_cases hc : c = 39
    · subst hc
      rw [List.count_cons_self, Lib.replaceK_hit _ _ _ _ 0 (by simp [Lib.index]), dbl, if_pos rfl]
      simp [ih]
    · have hcnt : (c :: r).count 39 = r.count 39 := by rw [List.count_cons_of_ne]; exact hc
      rw [hcnt, dbl, if_neg hc]
      cases hk : r.count 39 with
      | zero => rw [hk] at ih; simp only [Lib.replaceK] at ih ⊢; rw [← ih]
      | succ m =>
        obtain ⟨i, hi⟩ := Lib.index_of_count (s := r) (old := [39]) (by rw [Lib.count_one, hk]; omega)
        have hi' : Lib.index (c :: r) [39] = ((i + 1 : Nat) : Int) := by
          rw [Lib.index, if_neg (by simp [Ne.symm hc]), hi, if_neg (by simp), Int.natCast_add]; rfl
        rw [hk, Lib.replaceK_hit _ _ m r i hi] at ih
        rw [Lib.replaceK_hit _ _ m (c :: r) (i + 1) hi', ← ih]
        simp
theorem replace_dbl (s : List UInt8) : Lib.replaceAll s [39] [39, 39] = dbl s := by
  unfold Lib.replaceAll Lib.replace Lib.replaceNum
  rw [if_neg (by decide), if_pos (Or.inl (by decide)), Lib.count_one]
  exact replaceK_dbl s

def keyL : List V → List UInt8
  | [] => []
  | v :: r => Lib.itoa v.k ++ 44 :: (Lib.itoa v.n ++ 44 :: (Lib.itoa v.s.length ++ 58 :: (v.s ++ keyL r)))
theorem keyL_app (a b : List V) : keyL (a ++ b) = keyL a ++ keyL b := by
  induction a with
  | nil => rfl
  | cons v r ih => simp [keyL, ih]
theorem keyL_snoc (a : List V) (v : V) : keyL (a ++ [v]) = keyL a ++ Lib.itoa v.k ++ [44] ++ Lib.itoa v.n ++ [44] ++ Lib.itoa v.s.length ++ [58] ++ v.s := by
  rw [keyL_app]; simp [keyL]
theorem cut_at (c : UInt8) : ∀ x y r t : List UInt8, c ∉ x → c ∉ y → x ++ c :: r = y ++ c :: t → x = y ∧ r = t
  | [], [], r, t, _, _, h => by simpa using h
  | [], b :: y, r, t, _, hy, h => by simp at h; exact absurd (by rw [h.1]; simp) hy
  | a :: x, [], r, t, hx, _, h => by simp at h; exact absurd (by rw [h.1]; simp) hx
  | a :: x, b :: y, r, t, hx, hy, h => by
    simp only [List.cons_append, List.cons.injEq] at h
    obtain ⟨rfl, h⟩ := h
    have := cut_at c x y r t (fun m => hx (List.mem_cons_of_mem _ m)) (fun m => hy (List.mem_cons_of_mem _ m)) h
    exact ⟨by rw [this.1], this.2⟩
theorem itoa_no (n : Int) (c : UInt8) (h : isDig c = false) (h2 : c ≠ 45) : c ∉ Lib.itoa n := by
  intro m
  rcases itoa_chars n c m with e | e
  · rw [h] at e; cases e
  · exact h2 e
theorem key_inj : ∀ a b : List V, keyL a = keyL b → a = b
  | [], [], _ => rfl
  | [], v :: r, h => by
    have := congrArg List.length h
    simp [keyL] at this
  | v :: r, [], h => by
    have := congrArg List.length h
    simp [keyL] at this
  | v :: r, u :: t, h => by
    unfold keyL at h
    obtain ⟨e1, h⟩ := cut_at 44 _ _ _ _ (itoa_no _ _ (by decide) (by decide)) (itoa_no _ _ (by decide) (by decide)) h
    obtain ⟨e2, h⟩ := cut_at 44 _ _ _ _ (itoa_no _ _ (by decide) (by decide)) (itoa_no _ _ (by decide) (by decide)) h
    obtain ⟨e3, h⟩ := cut_at 58 _ _ _ _ (itoa_no _ _ (by decide) (by decide)) (itoa_no _ _ (by decide) (by decide)) h
    have e3 := itoa_inj _ _ e3
    obtain ⟨e4, h⟩ := List.append_inj h (by omega)
    rw [key_inj r t h]
    obtain ⟨vk, vn, vs⟩ := v
    obtain ⟨uk, un, us⟩ := u
    simp only at e1 e2 e4
    rw [itoa_inj _ _ e1, itoa_inj _ _ e2, e4]
theorem key_split (s : List UInt8) (a b : Nat) (ha : a ≤ s.length) (hb : b ≤ s.length) : (keyL [⟨2, 0, s.take a⟩, ⟨2, 0, s.drop a⟩] = keyL [⟨2, 0, s.take b⟩, ⟨2, 0, s.drop b⟩]) ↔ a = b := by
  constructor
  · intro h
    have := key_inj _ _ h
    simp only [List.cons.injEq, V.mk.injEq, true_and, and_true] at this
    have := congrArg List.length this.1
    simp at this
    omega
  · rintro rfl; rfl
end Go.Proofs.YtbplapkcleipiaaGreatDoor
/- Rows of nodes: the order of rows, and how classes are listed, do not matter. -/
namespace Go.Proofs.YtbplapkcleipiaaGreatDoor

/-- cs are the classes of l by f, in whatever order -/
structure IsC (f : R → List V) (l : List R) (cs : List Cl) : Prop where
  nd : (cs.map Prod.fst).Nodup
  mem : ∀ v, v ∈ cs.map Prod.fst ↔ v ∈ l.map f
  cls : ∀ c ∈ cs, c.2.Perm (l.filter fun r => decide (f r = c.1))
theorem IsC.keys {f : R → List V} {l l' : List R} {cs cs' : List Cl} (h : IsC f l cs) (k : IsC f l' cs') (hp : l.Perm l') : (cs.map Prod.fst).Perm (cs'.map Prod.fst) :=
  (List.perm_ext_iff_of_nodup h.nd k.nd).2 fun v => (h.mem v).trans ((hp.map f).mem_iff.trans (k.mem v).symm)
theorem IsC.map {β : Type} {f : R → List V} {l l' : List R} {cs cs' : List Cl} (h : IsC f l cs) (k : IsC f l' cs') (hp : l.Perm l') (G G' : Cl → β) (hG : ∀ v a b, a.Perm b → G (v, a) = G' (v, b)) : (cs.map G).Perm (cs'.map G') := by
  have e1 : cs.map G = (cs.map Prod.fst).map fun v => G' (v, l'.filter fun r => decide (f r = v)) := by
    rw [List.map_map]; exact List.map_congr_left fun c hc => hG c.1 c.2 _ ((h.cls c hc).trans (hp.filter _))
  have e2 : cs'.map G' = (cs'.map Prod.fst).map fun v => G' (v, l'.filter fun r => decide (f r = v)) := by
    rw [List.map_map]; refine List.map_congr_left fun c hc => ?_
    exact (hG c.1 _ c.2 (List.Perm.refl _)).symm.trans (hG c.1 c.2 _ (k.cls c hc))
  rw [e1, e2]
  exact (h.keys k hp).map _
theorem IsC.flatMap {β : Type} {f : R → List V} {l l' : List R} {cs cs' : List Cl} (h : IsC f l cs) (k : IsC f l' cs') (hp : l.Perm l') (G G' : Cl → List β) (hG : ∀ v a b, a.Perm b → G (v, a) = G' (v, b)) : (cs.flatMap G).Perm (cs'.flatMap G') := by
  rw [List.flatMap_def, List.flatMap_def]
  exact (h.map k hp G G' hG).flatten
theorem IsC.len {f : R → List V} {l l' : List R} {cs cs' : List Cl} (h : IsC f l cs) (k : IsC f l' cs') (hp : l.Perm l') : cs.length = cs'.length := by
  have := (h.keys k hp).length_eq; simpa using this

theorem addC_fst (f : R → List V) (cs : List Cl) (r : R) : (addC f cs r).map Prod.fst = if f r ∈ cs.map Prod.fst then cs.map Prod.fst else cs.map Prod.fst ++ [f r] := by
  unfold addC
  have e : cs.any (fun c => decide (c.1 = f r)) = true ↔ f r ∈ cs.map Prod.fst := by
    rw [List.any_eq_true, List.mem_map]; simp
  by_cases h : f r ∈ cs.map Prod.fst
  · rw [if_pos (e.2 h), if_pos h, List.map_map]
    exact List.map_congr_left fun c _ => by simp only [Function.comp]; split <;> rfl
  · rw [if_neg (fun x => h (e.1 x)), if_neg h]; simp
theorem clsF_isC (f : R → List V) (l : List R) : IsC f l (clsF f l) := by
  have key : ∀ (l : List R) (pre : List R) (cs : List Cl), IsC f pre cs → IsC f (pre ++ l) (l.foldl (addC f) cs) := by
    intro l
    induction l with
    | nil => intro pre cs h; simpa using h
    | cons r l ih =>
      intro pre cs h
      have := ih (pre ++ [r]) (addC f cs r) ?_
      · simpa using this
      · constructor
        · rw [addC_fst]; split
          · exact h.nd
          · rename_i hn
            refine List.nodup_append.2 ⟨h.nd, by simp, ?_⟩
            intro a ha b hb; simp only [List.mem_singleton] at hb; subst hb; intro e; subst e; exact hn ha
        · intro v
          rw [addC_fst, List.map_append, List.mem_append]
          split
          · rename_i hm
            rw [h.mem]; constructor
            · exact .inl
            · rintro (x | x)
              · exact x
              · simp only [List.map_cons, List.map_nil, List.mem_singleton] at x; subst x; exact (h.mem _).1 hm
          · rw [List.mem_append, h.mem]; simp
        · intro c hc
          rw [List.filter_append]
          unfold addC at hc
          split at hc
          · obtain ⟨d, hd, rfl⟩ := List.mem_map.1 hc
            by_cases e : d.1 = f r
            · rw [if_pos e]
              simp only [e, List.filter_cons, decide_true, if_true, List.filter_nil]
              have := h.cls d hd; rw [e] at this
              exact this.append_right _
            · rw [if_neg e]
              have : decide (f r = d.1) = false := by simp; exact fun x => e x.symm
              simp only [List.filter_cons, this, List.filter_nil]
              simpa using h.cls d hd
          · rename_i hn
            have hn' : ∀ c ∈ cs, c.1 ≠ f r := by
              intro c hc e; exact hn (List.any_eq_true.2 ⟨c, hc, by simp [e]⟩)
            rcases List.mem_append.1 hc with hc | hc
            · have : decide (f r = c.1) = false := by simp; exact fun x => hn' c hc x.symm
              simp only [List.filter_cons, this, List.filter_nil]
              simpa using h.cls c hc
            · simp only [List.mem_singleton] at hc; subst hc
              have : pre.filter (fun x => decide (f x = f r)) = [] := by
                rw [List.filter_eq_nil_iff]; intro a ha
                simp only [decide_eq_true_eq]; intro e
                obtain ⟨c, hc, e2⟩ := List.mem_map.1 ((h.mem (f a)).2 (List.mem_map_of_mem ha))
                exact hn' c hc (e2.trans e)
              simp [this]
  have := key l [] [] ⟨by simp, by simp, by simp⟩
  simpa [clsF] using this

/- the order of rows -/
theorem linR_perm {a b : List R} (h : a.Perm b) : linR a = linR b := linL_eq fun c => by
  simp only [List.mem_flatMap]
  exact ⟨fun ⟨r, hr, e⟩ => ⟨r, h.mem_iff.1 hr, e⟩, fun ⟨r, hr, e⟩ => ⟨r, h.mem_iff.2 hr, e⟩⟩
theorem ext_fold {α : Type} (c : α → α → Bool) (tot : ∀ a b, c a b = true → c b a = false) (tr : ∀ a b d, c a b = false → c b d = false → c a d = false) (l : List α) : ∀ m : α, let z := l.foldl (fun m v => if c v m = true then v else m) m
    (z = m ∨ z ∈ l) ∧ c m z = false ∧ ∀ v ∈ l, c v z = false := by
  induction l with
  | nil =>
    intro m
    refine ⟨.inl rfl, ?_, by simp⟩
    show c m m = false
    cases h : c m m with
    | false => rfl
    | true => have := tot _ _ h; rw [h] at this; exact this
  | cons x l ih =>
    intro m
    simp only [List.foldl_cons]
    by_cases hx : c x m = true
    · rw [if_pos hx]
      obtain ⟨h1, h2, h3⟩ := ih x
      refine ⟨?_, tr _ _ _ (tot _ _ hx) h2, ?_⟩
      · rcases h1 with h1 | h1
        · exact .inr (by rw [h1]; exact List.mem_cons_self)
        · exact .inr (List.mem_cons_of_mem _ h1)
      · intro v hv; rcases List.mem_cons.1 hv with rfl | hv
        · exact h2
        · exact h3 v hv
    · rw [if_neg hx]
      obtain ⟨h1, h2, h3⟩ := ih m
      refine ⟨?_, h2, ?_⟩
      · rcases h1 with h1 | h1
        · exact .inl h1
        · exact .inr (List.mem_cons_of_mem _ h1)
      · intro v hv; rcases List.mem_cons.1 hv with rfl | hv
        · exact tr _ _ _ (by simpa using hx) h2
        · exact h3 v hv
theorem ltV_tot (a b : V) (h : decide (cmpV a b < 0) = true) : decide (cmpV b a < 0) = false := by
  have := cv_swap a b; simp at *; omega
theorem ltV_tr (a b d : V) (h : decide (cmpV a b < 0) = false) (k : decide (cmpV b d < 0) = false) : decide (cmpV a d < 0) = false := by
  have e1 := cv_swap a b; have e2 := cv_swap b d; have e3 := cv_swap a d
  have := cv_ord.le_trans (a := d) (b := b) (d := a) (by simp at *; omega) (by simp at *; omega)
  simp at *; omega
theorem gtV_tot (a b : V) (h : decide (0 < cmpV a b) = true) : decide (0 < cmpV b a) = false := by
  have := cv_swap a b; simp at *; omega
theorem gtV_tr (a b d : V) (h : decide (0 < cmpV a b) = false) (k : decide (0 < cmpV b d) = false) : decide (0 < cmpV a d) = false := by
  have := cv_ord.le_trans (a := a) (b := b) (d := d) (by simp at *; omega) (by simp at *; omega)
  simp at *; omega
theorem minL_spec (x : V) (l : List V) : minL (x :: l) ∈ x :: l ∧ ∀ v ∈ x :: l, ¬ cmpV v (minL (x :: l)) < 0 := by
  have e : minL (x :: l) = l.foldl (fun m v => if decide (cmpV v m < 0) = true then v else m) x := by
    unfold minL; simp
  obtain ⟨h1, h2, h3⟩ := ext_fold (fun a b => decide (cmpV a b < 0)) ltV_tot ltV_tr l x
  rw [← e] at h1 h2 h3
  refine ⟨by rcases h1 with h | h; · rw [h]; simp
             · simp [h], fun v hv => ?_⟩
  rcases List.mem_cons.1 hv with rfl | hv
  · simpa using h2
  · simpa using h3 v hv
theorem maxL_spec (x : V) (l : List V) : maxL (x :: l) ∈ x :: l ∧ ∀ v ∈ x :: l, ¬ 0 < cmpV v (maxL (x :: l)) := by
  have e : maxL (x :: l) = l.foldl (fun m v => if decide (0 < cmpV v m) = true then v else m) x := by
    unfold maxL; simp
  obtain ⟨h1, h2, h3⟩ := ext_fold (fun a b => decide (0 < cmpV a b)) gtV_tot gtV_tr l x
  rw [← e] at h1 h2 h3
  refine ⟨by rcases h1 with h | h; · rw [h]; simp
             · simp [h], fun v hv => ?_⟩
  rcases List.mem_cons.1 hv with rfl | hv
  · simpa using h2
  · simpa using h3 v hv
theorem minL_uniq {l : List V} {m : V} (h1 : m ∈ l) (h2 : ∀ v ∈ l, ¬ cmpV v m < 0) : m = minL l := by
  cases l with
  | nil => cases h1
  | cons x l =>
    obtain ⟨k1, k2⟩ := minL_spec x l
    have a := h2 _ k1
    have b := k2 _ h1
    have := cv_swap m (minL (x :: l))
    exact (cv_zero _ _).1 (by omega)
theorem maxL_uniq {l : List V} {m : V} (h1 : m ∈ l) (h2 : ∀ v ∈ l, ¬ 0 < cmpV v m) : m = maxL l := by
  cases l with
  | nil => cases h1
  | cons x l =>
    obtain ⟨k1, k2⟩ := maxL_spec x l
    have a := h2 _ k1
    have b := k2 _ h1
    have := cv_swap m (maxL (x :: l))
    exact (cv_zero _ _).1 (by omega)
theorem minL_perm {a b : List V} (h : a.Perm b) : minL a = minL b := by
  cases a with
  | nil => rw [List.nil_perm.1 h]
  | cons x l =>
    obtain ⟨k1, k2⟩ := minL_spec x l
    exact minL_uniq (h.mem_iff.1 k1) fun v hv => k2 v (h.mem_iff.2 hv)
theorem maxL_perm {a b : List V} (h : a.Perm b) : maxL a = maxL b := by
  cases a with
  | nil => rw [List.nil_perm.1 h]
  | cons x l =>
    obtain ⟨k1, k2⟩ := maxL_spec x l
    exact maxL_uniq (h.mem_iff.1 k1) fun v hv => k2 v (h.mem_iff.2 hv)
theorem sum_perm {a b : List Int} (h : a.Perm b) : a.sum = b.sum := by
  induction h with
  | nil => rfl
  | cons x _ ih => simp [ih]
  | swap x y l => simp; omega
  | trans _ _ h1 h2 => exact h1.trans h2
theorem sumL_perm {a b : List V} (h : a.Perm b) : sumL a = sumL b := by
  have hp : (intL a).Perm (intL b) := (h.filter _).map _
  unfold sumL
  rw [hp.length_eq, sum_perm hp]
theorem agV_perm (es : List X) {a b : List R} (h : a.Perm b) (g : Int × Int) : agV es a g = agV es b g := by
  unfold agV
  have hp : ((a.map fun r => evlV es g.2 r.v).filter fun v => decide (v.k ≠ 0)).Perm ((b.map fun r => evlV es g.2 r.v).filter fun v => decide (v.k ≠ 0)) := (h.map _).filter _
  simp only
  rw [h.length_eq, hp.length_eq, minL_perm hp, maxL_perm hp, sumL_perm hp]
theorem grpR_perm (es : List X) (ag : List (Int × Int)) (v : List V) (a b : List R) (h : a.Perm b) : grpR es ag (v, a) = grpR es ag (v, b) := by
  unfold grpR
  simp only
  rw [linR_perm h, List.map_congr_left fun g _ => agV_perm es h g]
theorem parL_perm (es : List X) (p : Int) (r : R) {a b : List R} (h : a.Perm b) : (parL es p r a).Perm (parL es p r b) := (h.filter _).map _
theorem oneJ_perm (es : List X) (p : Int) (left : Bool) (w : Nat) {a b : List R} (h : a.Perm b) (r : R) : (oneJ es p left w a r).Perm (oneJ es p left w b r) := by
  have hp := parL_perm es p r h
  unfold oneJ
  rw [hp.length_eq]
  split
  · exact List.Perm.refl _
  · exact hp
theorem flat_perm {α β : Type} {f g : α → List β} (hf : ∀ x, (f x).Perm (g x)) {a b : List α} (h : a.Perm b) : (a.flatMap f).Perm (b.flatMap g) := by
  have h1 : ∀ l : List α, (l.flatMap f).Perm (l.flatMap g) := by
    intro l
    induction l with
    | nil => exact List.Perm.refl _
    | cons x l ih => simp only [List.flatMap_cons]; exact (hf x).append ih
  refine (h1 a).trans ?_
  rw [List.flatMap_def, List.flatMap_def]
  exact (h.map g).flatten
theorem jnL_perm (es : List X) (p : Int) (left : Bool) (w : Nat) {a a' b b' : List R} (h : a.Perm a') (k : b.Perm b') : (jnL es p left w a b).Perm (jnL es p left w a' b') :=
  flat_perm (fun r => oneJ_perm es p left w k r) h
theorem cmbC_perm (f : Nat → Nat → Nat) {a a' : List R} (h : a.Perm a') (v : List V) (x y : List R) (k : x.Perm y) : cmbC f a (v, x) = cmbC f a' (v, y) := by
  unfold cmbC
  simp only
  rw [cnt_perm h, k.length_eq, linR_perm k]

/-- a way to list classes -/
def IsCl (cl : (R → List V) → List R → List Cl) : Prop := ∀ f l, IsC f l (cl f l)
/-- lists of rows, each in whatever order -/
def Prm (a b : List (List R)) : Prop := a.length = b.length ∧ ∀ i, (atL a i).Perm (atL b i)
theorem Prm.nil : Prm [] [] := ⟨rfl, fun _ => List.Perm.refl _⟩
theorem atL_snoc (l : List (List R)) (x : List R) (i : Int) : atL (l ++ [x]) i = if i.toNat = l.length then x else atL l i := by
  unfold atL
  split
  · rename_i h; rw [h]; simp [List.getD]
  · rename_i h
    by_cases hl : i.toNat < l.length
    · simp [List.getD, List.getElem?_append_left hl]
    · simp [List.getD, List.getElem?_eq_none (show l.length ≤ i.toNat by omega), List.getElem?_eq_none (show (l ++ [x]).length ≤ i.toNat by simp; omega)]
theorem Prm.snoc {a b : List (List R)} {x y : List R} (h : Prm a b) (k : x.Perm y) : Prm (a ++ [x]) (b ++ [y]) := by
  refine ⟨by simp [h.1], fun i => ?_⟩
  rw [atL_snoc, atL_snoc, h.1]
  split
  · exact k
  · exact h.2 i
theorem evN_perm {cl cl' : (R → List V) → List R → List Cl} (H : IsCl cl) (H' : IsCl cl') (es : List X) (db db' : List Tb) (hdb : ∀ s, (scnL db s).Perm (scnL db' s)) (cols : List (List Int)) (n : Nd) {done done' : List (List R)} (hd : Prm done done') :
    (evN cl es db cols n done).Perm (evN cl' es db' cols n done') := by
  have ha := hd.2 n.a
  have hb := hd.2 n.b
  unfold evN
  by_cases h1 : n.k = 1
  · rw [if_pos h1, if_pos h1]; exact hdb _
  rw [if_neg h1, if_neg h1]
  by_cases h2 : n.k = 2
  · rw [if_pos h2, if_pos h2]; exact ha.filter _
  rw [if_neg h2, if_neg h2]
  by_cases h3 : n.k = 3
  · rw [if_pos h3, if_pos h3]; exact ha.map _
  rw [if_neg h3, if_neg h3]
  by_cases h4 : n.k = 4 ∨ n.k = 5
  · rw [if_pos h4, if_pos h4]; exact jnL_perm _ _ _ _ ha hb
  rw [if_neg h4, if_neg h4]
  by_cases h6 : n.k = 6
  · rw [if_pos h6, if_pos h6]; exact ha.append hb
  rw [if_neg h6, if_neg h6]
  by_cases h7 : n.k = 7
  · rw [if_pos h7, if_pos h7]; exact (H _ _).flatMap (H' _ _) (ha.append hb) _ _ (cmbC_perm _ ha)
  rw [if_neg h7, if_neg h7]
  by_cases h8 : n.k = 8
  · rw [if_pos h8, if_pos h8]; exact (H _ _).flatMap (H' _ _) (ha.append hb) _ _ (cmbC_perm _ ha)
  rw [if_neg h8, if_neg h8]
  by_cases h10 : n.k = 10
  · rw [if_pos h10, if_pos h10]
    have hl := (H (fun r => valL es n.ex r.v) (atL done n.a)).len (H' _ (atL done' n.a)) ha
    unfold oneC
    rw [hl]
    split
    · exact List.Perm.refl _
    · exact (H _ _).map (H' _ _) ha _ _ (grpR_perm es n.ag)
  rw [if_neg h10, if_neg h10]
  exact (H _ _).map (H' _ _) ha _ _ fun v x y k => by simp only [linR_perm k]
theorem evsQ_perm {cl cl' : (R → List V) → List R → List Cl} (H : IsCl cl) (H' : IsCl cl') (es : List X) (db db' : List Tb) (hdb : ∀ s, (scnL db s).Perm (scnL db' s)) (cols : List (List Int)) : ∀ (l : List Nd) {done done' : List (List R)}, Prm done done' →
    (evsQ cl es db cols l done).2 = (evsQ cl' es db' cols l done').2 ∧ Prm (evsQ cl es db cols l done).1 (evsQ cl' es db' cols l done').1
  | [], _, _, hd => ⟨rfl, hd⟩
  | n :: l, done, done', hd => by
    have hp := evN_perm H H' es db db' hdb cols n hd
    unfold evsQ
    rw [hp.length_eq]
    split
    · exact ⟨rfl, Prm.nil⟩
    · exact evsQ_perm H H' es db db' hdb cols l (hd.snoc hp)
theorem last_atL (l : List (List R)) : l.getLastD [] = atL l ((l.length - 1 : Nat) : Int) := by
  unfold atL
  cases l with
  | nil => rfl
  | cons x l => simp [List.getLastD, List.getD, List.getLast_eq_getElem]
theorem evQ_perm {cl cl' : (R → List V) → List R → List Cl} (H : IsCl cl) (H' : IsCl cl') (es : List X) (db db' : List Tb) (ht : db.map Tb.t = db'.map Tb.t) (hdb : ∀ s, (scnL db s).Perm (scnL db' s)) (l : List Nd) : evQ cl es db l = evQ cl' es db' l := by
  unfold evQ
  rw [ht]
  obtain ⟨h1, h2⟩ := evsQ_perm H H' es db db' hdb (colQ es (db'.map Tb.t) l).1 l Prm.nil
  simp only
  rw [h1, last_atL, last_atL, h2.1, sortR_eq.2 (h2.2 _)]
end Go.Proofs.YtbplapkcleipiaaGreatDoor
/- Cells set one by one: what stays. A row of the call's own that the code writes out. -/
namespace Go.Proofs.YtbplapkcleipiaaGreatDoor
open Go.ChangeShapes Go.WideShapes Go.ChangeAt Go.RowKit

theorem own_litB {α : Type} [Enc α] (e : TypeId) {W X : World} (h : Ext W X) (l : List α) (c : Array Value) (n k : Nat) (hn : n = X.heap.size) (hk : k = l.length) (hl : l.length ≤ 1000) (hc : c.toList = cellsG l) : OwnG e W (X.alloc (.cells c e)) (.slice (some ⟨n, 0, none⟩) k k) l := by
  subst hn hk
  have hs : c.size = l.length * Enc.sz α := by rw [← Array.length_toList, hc, cellsG_len]
  have := World.ownsRow_lit (base := W.heap.size) (e := e) (size := Enc.sz α) X c l.length h.2.2 (by unfold maxLen; omega) hs
  rw [hc] at this
  exact ⟨this, h.alloc _ _⟩
theorem grw_set (w : World) (b j : Nat) (u : Value) : Grw w (w.setCell ⟨b, j, none⟩ u) (some b) :=
  ⟨rfl, rfl, by simp [World.setCell], fun k _ hn => Below.heap_setCell _ _ _ _ (by show k ≠ b; exact fun e => hn (by rw [e]))⟩
theorem own_set {α : Type} [Enc α] {e : TypeId} {W w : World} {v : Value} {l : List α} (h : OwnG e W w v l) (b j : Nat) (u : Value) (hb : W.heap.size ≤ b) (hn : ∀ g, v.ownBlock = some g → g ≠ b) : OwnG e W (w.setCell ⟨b, j, none⟩ u) v l := by
  refine ⟨owns_grw h.1 (grw_set w b j u) ?_, h.2.setNew b j hb u⟩
  cases hv : v.ownBlock with
  | none => exact .inl rfl
  | some g => exact .inr (fun e => hn g hv (by injection e))
theorem own_set4 {α : Type} [Enc α] {e : TypeId} {W w : World} {v : Value} {l : List α} (h : OwnG e W w v l) (b : Nat) (p q r s : Value) (hb : W.heap.size ≤ b) (hn : ∀ g, v.ownBlock = some g → g ≠ b) : OwnG e W ((((w.setCell ⟨b, 0, none⟩ p).setCell ⟨b, 1, none⟩ q).setCell ⟨b, 2, none⟩ r).setCell ⟨b, 3, none⟩ s) v l :=
  own_set (own_set (own_set (own_set h b 0 p hb hn) b 1 q hb hn) b 2 r hb hn) b 3 s hb hn
theorem set4_cell {X : World} {b b' o : Nat} {p q r s v : Value} (hne : b' ≠ b) (h : X.cell? ⟨b', o, none⟩ = some v) : ((((X.setCell ⟨b, 0, none⟩ p).setCell ⟨b, 1, none⟩ q).setCell ⟨b, 2, none⟩ r).setCell ⟨b, 3, none⟩ s).cell? ⟨b', o, none⟩ = some v := by
  have hk : ∀ (Y : World) (j : Nat) (u : Value), (Y.setCell ⟨b, j, none⟩ u).cell? ⟨b', o, none⟩ = Y.cell? ⟨b', o, none⟩ := fun Y j u => World.cell?_of_block (Below.heap_setCell _ _ _ _ (by show b' ≠ b; exact hne))
  rw [hk, hk, hk, hk]; exact h
theorem own_ne {α : Type} [Enc α] {e : TypeId} {W w : World} {v : Value} {l : List α} (h : OwnG e W w v l) (b : Nat) (hb : b < W.heap.size) : ∀ g, v.ownBlock = some g → g ≠ b := fun g hg e => by
  have := (h.blk g hg).1; omega
end Go.Proofs.YtbplapkcleipiaaGreatDoor
