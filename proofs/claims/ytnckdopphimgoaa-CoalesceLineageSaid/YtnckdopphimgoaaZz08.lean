/- Periods that overlap, level by level, in plain lists: coverings, rows without partial overlap, their uniqueness; the sweep; levels one by one. -/
import Derived.Test.YtnckdopphimgoaaZz07
namespace Go.Proofs.Ytnckdopphimgoaa

/-- how many valid periods include the point -/
def cov (l : List (Int × Int)) (t : Int) : Nat := l.countP fun p => incB p.1 p.2 t
theorem cov_nil (t : Int) : cov [] t = 0 := rfl
theorem cov_cons (p : Int × Int) (l : List (Int × Int)) (t : Int) : cov (p :: l) t = cov l t + (if incB p.1 p.2 t = true then 1 else 0) := by
  unfold cov; rw [List.countP_cons]
theorem cov_app (l m : List (Int × Int)) (t : Int) : cov (l ++ m) t = cov l t + cov m t := by unfold cov; rw [List.countP_append]
theorem cov_perm {l m : List (Int × Int)} (h : l.Perm m) (t : Int) : cov l t = cov m t := h.countP_eq _
theorem cov_pos {l : List (Int × Int)} {t : Int} : 0 < cov l t ↔ ∃ p ∈ l, incB p.1 p.2 t = true := by
  unfold cov; rw [List.countP_pos_iff]
theorem cov_mem {l : List (Int × Int)} {t : Int} : memB l t = true ↔ 1 ≤ cov l t := by
  rw [Nat.succ_le_iff, cov_pos]; simp [memB]
/-- one within the other, or a gap between them -/
def Nst (p q : Int × Int) : Prop := (p.1 ≤ q.1 ∧ q.2 ≤ p.2) ∨ (q.1 ≤ p.1 ∧ p.2 ≤ q.2) ∨ p.2 < q.1 ∨ q.2 < p.1
theorem Nst.symm {p q : Int × Int} (h : Nst p q) : Nst q p := by unfold Nst at *; omega
theorem Nst.self (p : Int × Int) : Nst p p := by unfold Nst; omega
def okP (p : Int × Int) : Prop := 0 ≤ p.1 ∧ p.1 < p.2 ∧ p.2 ≤ 1099511627776
def Lam (l : List (Int × Int)) : Prop := (∀ p ∈ l, okP p) ∧ ∀ p ∈ l, ∀ q ∈ l, Nst p q
theorem Lam.nil : Lam [] := ⟨fun _ h => absurd h List.not_mem_nil, fun _ h => absurd h List.not_mem_nil⟩
theorem Lam.sub {l m : List (Int × Int)} (h : Lam m) (s : ∀ p ∈ l, p ∈ m) : Lam l := ⟨fun p hp => h.1 p (s p hp), fun p hp q hq => h.2 p (s p hp) q (s q hq)⟩
theorem Lam.snoc {l : List (Int × Int)} {p : Int × Int} (h : Lam l) (hp : okP p) (hn : ∀ q ∈ l, Nst q p) : Lam (l ++ [p]) := by
  refine ⟨fun q hq => ?_, fun q hq s hs => ?_⟩
  · rcases List.mem_append.1 hq with hq | hq
    · exact h.1 q hq
    · rw [List.mem_singleton.1 hq]; exact hp
  · rcases List.mem_append.1 hq with hq | hq <;> rcases List.mem_append.1 hs with hs | hs
    · exact h.2 q hq s hs
    · rw [List.mem_singleton.1 hs]; exact hn q hq
    · rw [List.mem_singleton.1 hq]; exact (hn s hs).symm
    · rw [List.mem_singleton.1 hq, List.mem_singleton.1 hs]; exact Nst.self p
/-- the first that begins, and the longest of these -/
def Frst (p q : Int × Int) : Prop := p.1 < q.1 ∨ (p.1 = q.1 ∧ q.2 ≤ p.2)
theorem frst_of : ∀ l : List (Int × Int), l ≠ [] → ∃ p ∈ l, ∀ q ∈ l, Frst p q
  | [], h => absurd rfl h
  | [x], _ => ⟨x, by simp, fun q hq => by rw [List.mem_singleton.1 hq]; unfold Frst; omega⟩
  | x :: y :: l, _ => by
    obtain ⟨p, hp, h⟩ := frst_of (y :: l) (by simp)
    by_cases c : Frst p x
    · refine ⟨p, List.mem_cons_of_mem _ hp, fun q hq => ?_⟩
      rcases List.mem_cons.1 hq with rfl | hq
      · exact c
      · exact h q hq
    · refine ⟨x, by simp, fun q hq => ?_⟩
      rcases List.mem_cons.1 hq with rfl | hq
      · unfold Frst; omega
      · have := h q hq; unfold Frst at *; omega
theorem lam_first {l m : List (Int × Int)} (h : Lam l) (k : Lam m) (e : ∀ t, cov l t = cov m t) {p q : Int × Int} (hp : p ∈ l) (fp : ∀ s ∈ l, Frst p s) (hq : q ∈ m) (fq : ∀ s ∈ m, Frst q s) : q.1 ≤ p.1 ∧ (p.1 = q.1 → q.2 ≤ p.2) := by
  have op := h.1 p hp
  have oq := k.1 q hq
  unfold okP at op oq
  constructor
  · have h1 : 0 < cov l p.1 := cov_pos.2 ⟨p, hp, incB_yes.2 ⟨op, by omega⟩⟩
    rw [e] at h1
    obtain ⟨s, hs, h2⟩ := cov_pos.1 h1
    have h3 := incB_yes.1 h2
    have h4 := fq s hs
    unfold Frst at h4
    omega
  · intro e1
    refine Int.not_lt.1 fun hlt => ?_
    have h1 : 0 < cov m p.2 := cov_pos.2 ⟨q, hq, incB_yes.2 ⟨oq, by omega⟩⟩
    rw [← e] at h1
    obtain ⟨s, hs, h2⟩ := cov_pos.1 h1
    have h3 := incB_yes.1 h2
    have h4 := fp s hs
    have h5 := h.2 p hp s hs
    unfold Frst at h4
    unfold Nst at h5
    omega
theorem lam_unique (n : Nat) : ∀ l m : List (Int × Int), l.length = n → Lam l → Lam m → (∀ t, cov l t = cov m t) → l.Perm m := by
  induction n with
  | zero =>
    intro l m hn h k e
    obtain rfl := List.eq_nil_of_length_eq_zero hn
    cases m with
    | nil => exact List.Perm.refl _
    | cons q m =>
      have oq := k.1 q (by simp)
      unfold okP at oq
      have h1 : 0 < cov (q :: m) q.1 := cov_pos.2 ⟨q, by simp, incB_yes.2 ⟨oq, by omega⟩⟩
      rw [← e, cov_nil] at h1
      omega
  | succ n ih =>
    intro l m hn h k e
    obtain ⟨p, hp, fp⟩ := frst_of l (fun c => by rw [c] at hn; simp at hn)
    have op := h.1 p hp
    unfold okP at op
    have hm : m ≠ [] := fun c => by
      have h1 : 0 < cov l p.1 := cov_pos.2 ⟨p, hp, incB_yes.2 ⟨op, by omega⟩⟩
      rw [e, c, cov_nil] at h1
      omega
    obtain ⟨q, hq, fq⟩ := frst_of m hm
    have a1 := lam_first h k e hp fp hq fq
    have a2 := lam_first k h (fun t => (e t).symm) hq fq hp fp
    have e1 : p.1 = q.1 := by omega
    have e2 : p.2 = q.2 := by have := a1.2 e1; have := a2.2 e1.symm; omega
    obtain rfl : p = q := Prod.ext e1 e2
    have pl := List.perm_cons_erase hp
    have pm := List.perm_cons_erase hq
    refine pl.trans ((List.Perm.cons p (ih _ _ ?_ (h.sub fun s hs => List.mem_of_mem_erase hs) (k.sub fun s hs => List.mem_of_mem_erase hs) fun t => ?_)).trans pm.symm)
    · rw [List.length_erase_of_mem hp]; omega
    · have h1 := cov_perm pl t
      have h2 := cov_perm pm t
      rw [cov_cons] at h1 h2
      have := e t
      omega
/-- by starts, then by ends -/
def leP2 (p q : Int × Int) : Prop := p.1 < q.1 ∨ (p.1 = q.1 ∧ p.2 ≤ q.2)
theorem sorted_unique {α : Type} {le : α → α → Prop} (anti : ∀ x y, le x y → le y x → x = y) : ∀ a b : List α, a.Perm b → a.Pairwise le → b.Pairwise le → a = b
  | [], b, h, _, _ => by rw [List.Perm.nil_eq h]
  | x :: a, [], h, _, _ => by have := h.length_eq; simp at this
  | x :: a, y :: b, h, ha, hb => by
    obtain ⟨ha1, ha2⟩ := List.pairwise_cons.1 ha
    obtain ⟨hb1, hb2⟩ := List.pairwise_cons.1 hb
    have hxy : x = y := by
      have h1 : x ∈ y :: b := h.mem_iff.1 (by simp)
      have h2 : y ∈ x :: a := h.mem_iff.2 (by simp)
      rcases List.mem_cons.1 h1 with e | e
      · exact e
      · rcases List.mem_cons.1 h2 with f | f
        · exact f.symm
        · exact anti x y (ha1 y f) (hb1 x e)
    subst hxy
    rw [sorted_unique anti a b ((List.perm_cons x).1 h) ha2 hb2]
/-- the periods of the levels of a covering, in their order -/
structure IsLv (f : Int → Nat) (L : List (Int × Int)) : Prop where
  srt : L.Pairwise leP2
  lam : Lam L
  cnt : ∀ t, cov L t = f t

/-- how many of the numbers are not above the point; how many below -/
def cle (l : List Int) (t : Int) : Nat := l.countP fun s => decide (s ≤ t)
def clt (l : List Int) (t : Int) : Nat := l.countP fun s => decide (s < t)
theorem cle_cons (x : Int) (l : List Int) (t : Int) : cle (x :: l) t = cle l t + (if x ≤ t then 1 else 0) := by unfold cle; rw [List.countP_cons]; simp
theorem clt_cons (x : Int) (l : List Int) (t : Int) : clt (x :: l) t = clt l t + (if x < t then 1 else 0) := by unfold clt; rw [List.countP_cons]; simp
theorem cle_app (l m : List Int) (t : Int) : cle (l ++ m) t = cle l t + cle m t := by unfold cle; rw [List.countP_append]
theorem clt_app (l m : List Int) (t : Int) : clt (l ++ m) t = clt l t + clt m t := by unfold clt; rw [List.countP_append]
theorem cle_perm {l m : List Int} (h : l.Perm m) (t : Int) : cle l t = cle m t := h.countP_eq _
theorem clt_perm {l m : List Int} (h : l.Perm m) (t : Int) : clt l t = clt m t := h.countP_eq _
theorem cle_zero {l : List Int} {t : Int} (h : ∀ s ∈ l, t < s) : cle l t = 0 := by
  unfold cle; rw [List.countP_eq_zero]; intro s hs; have := h s hs; simp; omega
theorem clt_zero {l : List Int} {t : Int} (h : ∀ s ∈ l, t ≤ s) : clt l t = 0 := by
  unfold clt; rw [List.countP_eq_zero]; intro s hs; have := h s hs; simp; omega
/-- what holds while the ends are swept -/
structure Sw (f : Int → Nat) (op st en : List Int) (P : List (Int × Int)) : Prop where
  len : op.length + st.length = en.length
  so : (op ++ st).Pairwise (· ≤ ·)
  se : en.Pairwise (· ≤ ·)
  cnt : ∀ t, cov P t + cle (op ++ st) t = f t + cle en t
  dom : ∀ t, cle en t ≤ clt (op ++ st) t
  ope : ∀ o ∈ op, ∀ e ∈ en, o < e
  lo : ∀ s ∈ op ++ st, 0 ≤ s
  hi : ∀ e ∈ en, e ≤ 1099511627776
  lam : Lam P
  pop : ∀ p ∈ P, ∀ o ∈ op, o ≤ p.1 ∨ p.2 < o
  pst : ∀ p ∈ P, ∀ s ∈ st, p.2 < s
  pen : ∀ p ∈ P, ∀ e ∈ en, p.2 ≤ e
theorem Sw.emit {f : Int → Nat} {op st en : List Int} {P : List (Int × Int)} {o e : Int} (h : Sw f (op ++ [o]) st (e :: en) P) (hs : ∀ s ∈ st, e < s) : Sw f op st en (P ++ [(o, e)]) := by
  obtain ⟨len, so, se, cnt, dom, ope, lo, hi, lam, pop, pst, pen⟩ := h
  rw [List.append_assoc, List.singleton_append] at so
  obtain ⟨se1, se2⟩ := List.pairwise_cons.1 se
  obtain ⟨so1, so2, so3⟩ := List.pairwise_append.1 so
  obtain ⟨so4, so5⟩ := List.pairwise_cons.1 so2
  have hoe := ope o (by simp) e (by simp)
  have hok : okP (o, e) := ⟨lo o (by simp), hoe, hi e (by simp)⟩
  refine ⟨by simp at len ⊢; omega, ?_, se2, fun t => ?_, fun t => ?_, fun a ha b hb => ope a (by simp [ha]) b (by simp [hb]), fun s hs' => lo s (by simp at hs' ⊢; rcases hs' with h | h <;> simp [h]), fun b hb => hi b (by simp [hb]), lam.snoc hok fun q hq => ?_, fun p hp a ha => ?_, fun p hp s hs' => ?_, fun p hp b hb => ?_⟩
  · exact List.pairwise_append.2 ⟨so1, so5, fun a ha b hb => so3 a ha b (by simp [hb])⟩
  · have := cnt t
    rw [cov_app, cov_cons, cov_nil]
    rw [cle_app, cle_app, cle_cons, cle_cons] at this
    rw [cle_app]
    have hi0 : cle [] t = 0 := rfl
    have hin : incB o e t = true ↔ o ≤ t ∧ t < e := by rw [incB_yes]; exact ⟨fun h => h.2, fun h => ⟨hok, h⟩⟩
    simp only [hin]
    by_cases c1 : o ≤ t <;> by_cases c2 : e ≤ t
    · rw [if_pos c1, if_pos c2] at this; rw [if_neg (by omega)]; omega
    · rw [if_pos c1, if_neg c2] at this; rw [if_pos ⟨c1, by omega⟩]; omega
    · omega
    · rw [if_neg c1, if_neg c2] at this; rw [if_neg (by omega)]; omega
  · by_cases c : t < e
    · rw [cle_zero fun b hb => by have := se1 b hb; omega]; exact Nat.zero_le _
    · have := dom t
      rw [cle_cons, clt_app, clt_app, clt_cons] at this
      have hi0 : clt [] t = 0 := rfl
      rw [clt_app]
      rw [if_pos (by omega), if_pos (by omega)] at this
      omega
  · rcases pop q hq o (by simp) with h1 | h1
    · have := pen q hq e (by simp)
      exact Or.inr (Or.inl ⟨h1, this⟩)
    · exact Or.inr (Or.inr (Or.inl h1))
  · rcases List.mem_append.1 hp with hp | hp
    · exact pop p hp a (by simp [ha])
    · rw [List.mem_singleton.1 hp]
      exact Or.inl (so3 a ha o (by simp))
  · rcases List.mem_append.1 hp with hp | hp
    · exact pst p hp s hs'
    · rw [List.mem_singleton.1 hp]; exact hs s hs'
  · rcases List.mem_append.1 hp with hp | hp
    · exact pen p hp b (by simp [hb])
    · rw [List.mem_singleton.1 hp]; exact se1 b hb
theorem Sw.push {f : Int → Nat} {op st en : List Int} {P : List (Int × Int)} {s e : Int} (h : Sw f op (s :: st) (e :: en) P) (hs : s < e) : Sw f (op ++ [s]) st (e :: en) P := by
  obtain ⟨len, so, se, cnt, dom, ope, lo, hi, lam, pop, pst, pen⟩ := h
  have e0 : op ++ s :: st = op ++ [s] ++ st := by simp
  rw [e0] at so lo
  simp only [e0] at cnt dom
  obtain ⟨se1, se2⟩ := List.pairwise_cons.1 se
  refine ⟨by simp at len ⊢; omega, so, se, cnt, dom, fun a ha b hb => ?_, lo, hi, lam, fun p hp a ha => ?_, fun p hp a ha => pst p hp a (by simp [ha]), pen⟩
  · rcases List.mem_append.1 ha with ha | ha
    · exact ope a ha b hb
    · rw [List.mem_singleton.1 ha]
      rcases List.mem_cons.1 hb with rfl | hb
      · exact hs
      · have := se1 b hb; omega
  · rcases List.mem_append.1 ha with ha | ha
    · exact pop p hp a ha
    · rw [List.mem_singleton.1 ha]; exact Or.inr (pst p hp s (by simp))
theorem Sw.skip {f : Int → Nat} {op st en : List Int} {P : List (Int × Int)} {s : Int} (h : Sw f op (s :: st) (s :: en) P) : Sw f op st en P := by
  obtain ⟨len, so, se, cnt, dom, ope, lo, hi, lam, pop, pst, pen⟩ := h
  obtain ⟨so1, so2, so3⟩ := List.pairwise_append.1 so
  refine ⟨by simp at len ⊢; omega, List.pairwise_append.2 ⟨so1, (List.pairwise_cons.1 so2).2, fun a ha b hb => so3 a ha b (by simp [hb])⟩, (List.pairwise_cons.1 se).2, fun t => ?_, fun t => ?_, fun a ha b hb => ope a ha b (by simp [hb]), fun a ha => lo a (by simp at ha ⊢; rcases ha with h | h <;> simp [h]), fun b hb => hi b (by simp [hb]), lam, pop, fun p hp a ha => pst p hp a (by simp [ha]), fun p hp b hb => pen p hp b (by simp [hb])⟩
  · have := cnt t
    rw [cle_app, cle_cons, cle_cons] at this
    rw [cle_app]; omega
  · have := dom t
    rw [cle_cons, clt_app, clt_cons] at this
    rw [clt_app]
    split at this <;> split at this <;> omega
theorem Sw.open {f : Int → Nat} {op st en : List Int} {P : List (Int × Int)} {e : Int} (h : Sw f op st (e :: en) P) (hs : ∀ s ∈ st, e < s) : op ≠ [] := by
  rintro rfl
  have := h.dom e
  rw [cle_cons, if_pos (Int.le_refl _), List.nil_append, clt_zero fun s hs' => by have := hs s hs'; omega] at this
  omega
theorem Sw.done {f : Int → Nat} {op st : List Int} {P L : List (Int × Int)} (h : Sw f op st [] P) (hp : L.Perm P) (hs : L.Pairwise leP2) : IsLv f L := by
  have hl := h.len
  simp only [List.length_nil] at hl
  obtain rfl : op = [] := List.eq_nil_of_length_eq_zero (by omega)
  obtain rfl : st = [] := List.eq_nil_of_length_eq_zero (by omega)
  refine ⟨hs, h.lam.sub fun p hp' => hp.mem_iff.1 hp', fun t => ?_⟩
  rw [cov_perm hp]
  have := h.cnt t
  have h0 : cle [] t = 0 := rfl
  simp only [List.append_nil] at this
  omega
theorem sw_start {G : List (Int × Int)} {st en : List Int} (hG : ∀ p ∈ G, okP p) (h1 : st.Perm (G.map Prod.fst)) (h2 : en.Perm (G.map Prod.snd)) (s1 : st.Pairwise (· ≤ ·)) (s2 : en.Pairwise (· ≤ ·)) : Sw (cov G) [] st en [] := by
  refine ⟨by rw [h1.length_eq, h2.length_eq]; simp, s1, s2, fun t => ?_, fun t => ?_, fun _ h => absurd h List.not_mem_nil, fun s hs => ?_, fun e he => ?_, Lam.nil, fun _ h => absurd h List.not_mem_nil, fun _ h => absurd h List.not_mem_nil, fun _ h => absurd h List.not_mem_nil⟩
  · rw [List.nil_append, cle_perm h1, cle_perm h2, cov_nil, Nat.zero_add]
    clear h1 h2 s1 s2
    induction G with
    | nil => rfl
    | cons p G ih =>
      have := ih fun q hq => hG q (by simp [hq])
      have hp := hG p (by simp)
      rw [List.map_cons, List.map_cons, cle_cons, cle_cons, cov_cons]
      unfold okP at hp
      by_cases c : incB p.1 p.2 t = true
      · have c2 := incB_yes.1 c
        rw [if_pos c, if_pos c2.2.1, if_neg (by omega)]; omega
      · rw [if_neg c]
        have c2 : ¬ (p.1 ≤ t ∧ t < p.2) := fun x => c (incB_yes.2 ⟨hp, x⟩)
        by_cases c3 : p.1 ≤ t
        · rw [if_pos c3, if_pos (by omega)]; omega
        · rw [if_neg c3, if_neg (by omega)]; omega
  · rw [List.nil_append, cle_perm h2, clt_perm h1]
    clear h1 h2 s1 s2
    induction G with
    | nil => exact Nat.le_refl _
    | cons p G ih =>
      have := ih fun q hq => hG q (by simp [hq])
      have hp := hG p (by simp)
      rw [List.map_cons, List.map_cons, cle_cons, clt_cons]
      unfold okP at hp
      split <;> split <;> omega
  · obtain ⟨p, hp, rfl⟩ := List.mem_map.1 (h1.mem_iff.1 (by simpa using hs))
    exact (hG p hp).1
  · obtain ⟨p, hp, rfl⟩ := List.mem_map.1 (h2.mem_iff.1 he)
    exact (hG p hp).2.2

/-- any run of points of level k lies within the period or apart from it -/
def Fit (q : Int × Int) (f : Int → Nat) (k : Nat) : Prop := ∀ x y, x < y → (∀ t, x ≤ t → t < y → k ≤ f t) → (q.1 ≤ x ∧ y ≤ q.2) ∨ y < q.1 ∨ q.2 < x
theorem Fit.mono {q : Int × Int} {f : Int → Nat} {k j : Nat} (h : Fit q f k) (hk : k ≤ j) : Fit q f j := fun x y hxy ht => h x y hxy fun t h1 h2 => Nat.le_trans hk (ht t h1 h2)
theorem nf_gap {m : List (Int × Int)} (h : NF m) {p q : Int × Int} (hp : p ∈ m) (hq : q ∈ m) : p = q ∨ p.2 < q.1 ∨ q.2 < p.1 := by
  obtain ⟨i, hi, rfl⟩ := List.mem_iff_getElem.1 hp
  obtain ⟨j, hj, rfl⟩ := List.mem_iff_getElem.1 hq
  rcases Nat.lt_trichotomy i j with c | c | c
  · exact Or.inr (Or.inl (List.pairwise_iff_getElem.1 h.2 i j hi hj c))
  · subst c; exact Or.inl rfl
  · exact Or.inr (Or.inr (List.pairwise_iff_getElem.1 h.2 j i hj hi c))
theorem nf_fit {m : List (Int × Int)} {f : Int → Nat} {k : Nat} (h : NF m) (e : ∀ t, memB m t = true ↔ k ≤ f t) {q : Int × Int} (hq : q ∈ m) : Fit q f k := by
  intro x y hxy ht
  have hv := h.1 q hq
  by_cases c1 : y < q.1
  · exact Or.inr (Or.inl c1)
  by_cases c2 : q.2 < x
  · exact Or.inr (Or.inr c2)
  left
  have key : ∀ t, x ≤ t → t < y → (q.1 ≤ t + 1 ∧ t ≤ q.2) → q.1 ≤ t ∧ t < q.2 := by
    intro t h1 h2 h3
    obtain ⟨s, hs, hs1, hs2⟩ := memB_iff.1 ((e t).2 (ht t h1 h2))
    rcases nf_gap h hq hs with rfl | g | g
    · exact hs2
    · omega
    · omega
  by_cases c3 : q.1 ≤ x
  · refine ⟨c3, Int.not_lt.1 fun c4 => ?_⟩
    by_cases c5 : x ≤ q.2
    · have := key q.2 c5 c4 ⟨by omega, Int.le_refl _⟩; omega
    · omega
  · have := key (q.1 - 1) (by omega) (by omega) ⟨by omega, by omega⟩; omega
/-- the first k levels -/
structure LvK (f : Int → Nat) (k : Nat) (L : List (Int × Int)) : Prop where
  srt : L.Pairwise leP2
  lam : Lam L
  fit : ∀ q ∈ L, Fit q f k
  cnt : ∀ t, cov L t = min k (f t)
theorem LvK.zero (f : Int → Nat) : LvK f 0 [] := ⟨List.Pairwise.nil, Lam.nil, fun _ h => absurd h List.not_mem_nil, fun t => by rw [cov_nil]; omega⟩
theorem nf_cov {m : List (Int × Int)} (h : NF m) (t : Int) : cov m t = if memB m t = true then 1 else 0 := by
  induction m with
  | nil => rfl
  | cons p m ih =>
    rw [cov_cons, memB_cons, ih h.tail]
    by_cases c : incB p.1 p.2 t = true
    · have n1 : memB m t = false := by
        rw [← Bool.not_eq_true]; intro ht; have := h.after ht; have := incB_yes.1 c; omega
      rw [n1, c]; rfl
    · rw [Bool.not_eq_true] at c
      rw [c, Bool.false_or]; simp
theorem LvK.next {f : Int → Nat} {k : Nat} {L M : List (Int × Int)} {m : List (Int × Int)} (h : LvK f k L) (hn : NF m) (e : ∀ t, memB m t = true ↔ k + 1 ≤ f t) (hp : M.Perm (L ++ m)) (hs : M.Pairwise leP2) : LvK f (k + 1) M := by
  have hfit : ∀ q ∈ m, Fit q f (k + 1) := fun q hq => nf_fit hn e hq
  have hin : ∀ p ∈ m, ∀ t, p.1 ≤ t → t < p.2 → k + 1 ≤ f t := fun p hp t h1 h2 => (e t).1 (memB_iff.2 ⟨p, hp, hn.1 p hp, h1, h2⟩)
  have hLm : ∀ q ∈ L, ∀ p ∈ m, Nst q p := by
    intro q hq p hp
    have := h.fit q hq p.1 p.2 (hn.1 p hp).2.1 fun t h1 h2 => Nat.le_of_succ_le (hin p hp t h1 h2)
    unfold Nst
    omega
  have hmm : ∀ q ∈ m, ∀ p ∈ m, Nst q p := by
    intro q hq p hp
    rcases nf_gap hn hq hp with rfl | g | g
    · exact Nst.self _
    · exact Or.inr (Or.inr (Or.inl g))
    · exact Or.inr (Or.inr (Or.inr g))
  refine ⟨hs, ⟨fun p hp' => ?_, fun p hp' q hq' => ?_⟩, fun q hq' => ?_, fun t => ?_⟩
  · rcases List.mem_append.1 (hp.mem_iff.1 hp') with a | a
    · exact h.lam.1 p a
    · exact hn.1 p a
  · rcases List.mem_append.1 (hp.mem_iff.1 hp') with a | a <;> rcases List.mem_append.1 (hp.mem_iff.1 hq') with b | b
    · exact h.lam.2 p a q b
    · exact hLm p a q b
    · exact (hLm q b p a).symm
    · exact hmm p a q b
  · rcases List.mem_append.1 (hp.mem_iff.1 hq') with a | a
    · exact (h.fit q a).mono (Nat.le_succ k)
    · exact hfit q a
  · rw [cov_perm hp, cov_app, h.cnt, nf_cov hn]
    by_cases c : memB m t = true
    · have := (e t).1 c
      rw [if_pos c]; omega
    · have : ¬ (k + 1 ≤ f t) := fun x => c ((e t).2 x)
      rw [if_neg c]; omega
theorem LvK.done {f : Int → Nat} {k : Nat} {L : List (Int × Int)} (h : LvK f k L) (hk : ∀ t, f t ≤ k) : IsLv f L := ⟨h.srt, h.lam, fun t => by rw [h.cnt, Nat.min_eq_right (hk t)]⟩
theorem cov_le (l : List (Int × Int)) (t : Int) : cov l t ≤ l.length := List.countP_le_length

/-- the ends of the valid periods, ascending -/
structure IsBd (G : List (Int × Int)) (pts : List Int) : Prop where
  asc : pts.Pairwise (· < ·)
  mem : ∀ e, e ∈ pts ↔ ∃ p ∈ G, okP p ∧ (e = p.1 ∨ e = p.2)
/-- no end of a valid period lies behind p and not behind t -/
theorem cov_still {G : List (Int × Int)} {p t : Int} (hp : p ≤ t) (h : ∀ q ∈ G, okP q → ¬ (p < q.1 ∧ q.1 ≤ t) ∧ ¬ (p < q.2 ∧ q.2 ≤ t)) : cov G t = cov G p := by
  unfold cov
  refine List.countP_congr fun q hq => ?_
  rw [incB_yes, incB_yes]
  constructor
  · rintro ⟨h1, h2⟩; have := h q hq h1; exact ⟨h1, by omega⟩
  · rintro ⟨h1, h2⟩; have := h q hq h1; exact ⟨h1, by omega⟩
theorem IsBd.still {G : List (Int × Int)} {pts : List Int} (h : IsBd G pts) {p t : Int} (hp : p ≤ t) (hn : ∀ e ∈ pts, e ≤ p ∨ t < e) : cov G t = cov G p := by
  refine cov_still hp fun q hq ho => ?_
  have h1 := hn q.1 ((h.mem _).2 ⟨q, hq, ho, Or.inl rfl⟩)
  have h2 := hn q.2 ((h.mem _).2 ⟨q, hq, ho, Or.inr rfl⟩)
  omega
theorem IsBd.none {G : List (Int × Int)} {pts : List Int} (h : IsBd G pts) {t : Int} (hn : ∀ e ∈ pts, t < e) : cov G t = 0 := by
  refine Nat.eq_zero_of_not_pos fun hpos => ?_
  obtain ⟨q, hq, hi⟩ := cov_pos.1 hpos
  have h1 := incB_yes.1 hi
  have := hn q.1 ((h.mem _).2 ⟨q, hq, h1.1, Or.inl rfl⟩)
  omega
theorem IsBd.past {G : List (Int × Int)} {pts : List Int} (h : IsBd G pts) {t : Int} (hn : ∀ e ∈ pts, e ≤ t) : cov G t = 0 := by
  refine Nat.eq_zero_of_not_pos fun hpos => ?_
  obtain ⟨q, hq, hi⟩ := cov_pos.1 hpos
  have h1 := incB_yes.1 hi
  have := hn q.2 ((h.mem _).2 ⟨q, hq, h1.1, Or.inr rfl⟩)
  omega
theorem IsBd.ok {G : List (Int × Int)} {pts : List Int} (h : IsBd G pts) : ∀ e ∈ pts, 0 ≤ e ∧ e ≤ 1099511627776 := by
  intro e he
  obtain ⟨q, _, ho, h1⟩ := (h.mem e).1 he
  unfold okP at ho
  omega
theorem IsBd.unique {G : List (Int × Int)} {a b : List Int} (h : IsBd G a) (k : IsBd G b) : a = b := by
  refine sorted_unique (le := (· < ·)) (fun x y h1 h2 => by omega) a b ?_ h.asc k.asc
  refine (List.perm_ext_iff_of_nodup ?_ ?_).2 fun e => (h.mem e).trans (k.mem e).symm
  · exact h.asc.imp fun h => by omega
  · exact k.asc.imp fun h => by omega
/-- the last boundary that is not behind the point -/
theorem last_of : ∀ (pts : List Int) (t : Int), (∀ e ∈ pts, t < e) ∨ ∃ p ∈ pts, p ≤ t ∧ ∀ e ∈ pts, e ≤ p ∨ t < e
  | [], _ => Or.inl fun _ h => absurd h List.not_mem_nil
  | x :: l, t => by
    rcases last_of l t with h | ⟨p, hp, h1, h2⟩
    · by_cases c : x ≤ t
      · exact Or.inr ⟨x, by simp, c, fun e he => by rcases List.mem_cons.1 he with rfl | he <;> first | exact Or.inl (Int.le_refl _) | exact Or.inr (h e he)⟩
      · exact Or.inl fun e he => by rcases List.mem_cons.1 he with rfl | he <;> first | omega | exact h e he
    · by_cases c : p < x ∧ x ≤ t
      · exact Or.inr ⟨x, by simp, c.2, fun e he => by
          rcases List.mem_cons.1 he with rfl | he
          · exact Or.inl (Int.le_refl _)
          · rcases h2 e he with h | h
            · exact Or.inl (by omega)
            · exact Or.inr h⟩
      · exact Or.inr ⟨p, by simp [hp], h1, fun e he => by
          rcases List.mem_cons.1 he with rfl | he
          · omega
          · exact h2 e he⟩
/-- the pieces between the boundaries that are covered k times -/
def pcs (f : Int → Nat) (pts : List Int) (k : Nat) (n : Nat) : List (Int × Int) := (List.range n).filterMap fun i => match pts[i]?, pts[i + 1]? with
  | some p, some q => if k ≤ f p then some (p, q) else none
  | _, _ => none
theorem pcs_mem {G : List (Int × Int)} {pts : List Int} (h : IsBd G pts) {k : Nat} (hk : 1 ≤ k) (t : Int) : memB (pcs (cov G) pts k (pts.length - 1)) t = true ↔ k ≤ cov G t := by
  rw [memB_iff]
  constructor
  · rintro ⟨p, hp, h1, h2⟩
    obtain ⟨i, hi, h3⟩ := List.mem_filterMap.1 hp
    have hi' := List.mem_range.1 hi
    rw [List.getElem?_eq_getElem (by omega), List.getElem?_eq_getElem (by omega)] at h3
    simp only at h3
    split at h3
    · rename_i hk'
      injection h3 with h3
      rw [← h3] at h1 h2
      simp only at h1 h2
      rw [h.still h2.1 fun e he => ?_]
      · exact hk'
      · obtain ⟨j, hj, rfl⟩ := List.mem_iff_getElem.1 he
        rcases Nat.lt_trichotomy j i with c | c | c
        · have := List.pairwise_iff_getElem.1 h.asc j i hj (by omega) c; left; omega
        · subst c; left; omega
        · by_cases c2 : j = i + 1
          · subst c2; right; omega
          · have := List.pairwise_iff_getElem.1 h.asc (i + 1) j (by omega) hj (by omega); right; omega
    · cases h3
  · intro hc
    rcases last_of pts t with h1 | ⟨p, hp, h1, h2⟩
    · rw [h.none h1] at hc; omega
    · obtain ⟨i, hi, rfl⟩ := List.mem_iff_getElem.1 hp
      have hst := h.still h1 h2
      by_cases hl : i + 1 < pts.length
      · refine ⟨(pts[i], pts[i + 1]), List.mem_filterMap.2 ⟨i, List.mem_range.2 (by omega), ?_⟩, ?_, h1, ?_⟩
        · rw [List.getElem?_eq_getElem hi, List.getElem?_eq_getElem hl]
          simp only
          rw [if_pos (by omega)]
        · have a1 := h.ok _ (List.getElem_mem hi)
          have a2 := h.ok _ (List.getElem_mem hl)
          have a3 := List.pairwise_iff_getElem.1 h.asc i (i + 1) hi hl (by omega)
          simp only
          omega
        · rcases h2 _ (List.getElem_mem hl) with c | c
          · have a3 := List.pairwise_iff_getElem.1 h.asc i (i + 1) hi hl (by omega); omega
          · exact c
      · have hpast := h.past (t := pts[i]) fun e he => by
          obtain ⟨j, hj, rfl⟩ := List.mem_iff_getElem.1 he
          rcases Nat.lt_or_ge j i with c | c
          · have := List.pairwise_iff_getElem.1 h.asc j i hj hi c; omega
          · have : j = i := by omega
            subst this; omega
        omega
theorem pcs_step (f : Int → Nat) (pts : List Int) (k n : Nat) (h : n + 1 < pts.length) : pcs f pts k (n + 1) = pcs f pts k n ++ (if k ≤ f pts[n] then [(pts[n], pts[n + 1])] else []) := by
  unfold pcs
  rw [List.range_succ, List.filterMap_append, List.filterMap_cons]
  rw [List.getElem?_eq_getElem (by omega), List.getElem?_eq_getElem h]
  simp only
  by_cases c : k ≤ f pts[n]
  · rw [if_pos c, if_pos c]; rfl
  · rw [if_neg c, if_neg c]; rfl
end Go.Proofs.Ytnckdopphimgoaa
