/- Expressions in plain lists: only what is reached matters; types are kept; columns are an ascending list. -/
import Derived.Test.YtdamlnfjhpmpmaaEx
import Derived.Test.YtdamlnfjhpmpmaaAsc
import Derived.Lib.SlicesCompact
namespace Go.Proofs.Ytdamlnfjhpmpmaa

/-- the value of a column, or none -/
def colV (row : List V) (c : Int) : V := if isIx c row.length = true then atV row c else nul
theorem lgA_of {x : X} {i : Int} (h : lgl x i = true) (ha : 1 ≤ ari x.op) : lgA x i = true := by
  simp only [lgl, lgA, Bool.and_eq_true, Bool.or_eq_true, decide_eq_true_eq] at *
  exact ⟨ha, h.1.resolve_left (by omega)⟩
theorem lgB_of {x : X} {i : Int} (h : lgl x i = true) (hb : ari x.op = 2) : lgB x i = true := by
  simp only [lgl, lgB, Bool.and_eq_true, Bool.or_eq_true, decide_eq_true_eq] at *
  exact ⟨hb, h.2.resolve_left (by omega)⟩
theorem ari_two (op : Int) (h0 : 3 ≤ op) (h1 : op ≤ 9) : ari op = 2 := by unfold ari; rw [if_neg (by omega), if_neg (by omega), if_pos ⟨h0, h1⟩]
theorem evO_same (x : X) (p q row row' : List V) (hl : p.length = q.length) (ha : lgA x p.length = true → atV p x.a = atV q x.a) (hb : lgB x p.length = true → atV p x.b = atV q x.b)
    (hr : x.op = 2 → colV row x.col = colV row' x.col) : evO x p row = evO x q row' := by
  unfold evO
  rw [← hl]
  by_cases hg : lgl x p.length = false
  · rw [if_pos hg, if_pos hg]
  have hg' : lgl x p.length = true := by simpa using hg
  rw [if_neg hg, if_neg hg]
  by_cases h1 : x.op = 1
  · rw [if_pos h1, if_pos h1]
  rw [if_neg h1, if_neg h1]
  by_cases h2 : x.op = 2
  · rw [if_pos h2, if_pos h2]; exact hr h2
  rw [if_neg h2, if_neg h2]
  by_cases h3 : 3 ≤ x.op ∧ x.op ≤ 5
  · have h9 := ari_two x.op (by omega) (by omega)
    rw [if_pos h3, if_pos h3, ha (lgA_of hg' (by omega)), hb (lgB_of hg' h9)]
  rw [if_neg h3, if_neg h3]
  by_cases h4 : 6 ≤ x.op ∧ x.op ≤ 9
  · have h9 := ari_two x.op (by omega) (by omega)
    rw [if_pos h4, if_pos h4, ha (lgA_of hg' (by omega)), hb (lgB_of hg' h9)]
  rw [if_neg h4, if_neg h4]
  by_cases h5 : x.op = 10
  · rw [if_pos h5, if_pos h5, ha (lgA_of hg' (by rw [h5]; decide))]
  rw [if_neg h5, if_neg h5]
  by_cases h6 : x.op = 11
  · rw [if_pos h6, if_pos h6, ha (lgA_of hg' (by rw [h6]; decide))]
  rw [if_neg h6, if_neg h6]

/- the values that the program keeps: those that are reached -/
def pvs (row : List V) (l : List X) (R : List Bool) (n k : Nat) : List V := (List.range n).map fun j => if j < k ∧ R.getD j false = true then (evs row l).getD j nul else nul
theorem pvs_len (row : List V) (l : List X) (R : List Bool) (n k : Nat) : (pvs row l R n k).length = n := by simp [pvs]
theorem pvs_zero (row : List V) (l : List X) (R : List Bool) (n : Nat) : pvs row l R n 0 = List.replicate n nul := by
  refine List.ext_getElem (by simp [pvs]) fun j h1 h2 => ?_
  rw [List.getElem_replicate]
  simp [pvs]
theorem pvs_at (row : List V) (l : List X) (R : List Bool) (n k j : Nat) (hj : j < n) : (pvs row l R n k).getD j nul = if j < k ∧ R.getD j false = true then (evs row l).getD j nul else nul := by
  rw [List.getD, pvs, List.getElem?_map, List.getElem?_range hj]; rfl
theorem list_getD_ext {α : Type} (a b : List α) (d : α) (hl : a.length = b.length) (h : ∀ j, j < a.length → a.getD j d = b.getD j d) : a = b := by
  refine List.ext_getElem hl fun j h1 h2 => ?_
  have := h j h1
  simpa [List.getD, h1, h2] using this
theorem getD_set {α : Type} (u : List α) (k j : Nat) (x d : α) (hk : k < u.length) : (u.set k x).getD j d = if k = j then x else u.getD j d := by
  simp only [List.getD, List.getElem?_set, hk, if_true]
  split <;> rfl
theorem pvs_skip (row : List V) (l : List X) (R : List Bool) (n k : Nat) (h : R.getD k false = false) : pvs row l R n (k + 1) = pvs row l R n k := by
  unfold pvs
  refine List.map_congr_left fun j _ => ?_
  by_cases hj : j = k
  · subst hj; rw [if_neg (fun x => by rw [h] at x; exact absurd x.2 (by simp)), if_neg (fun x => by omega)]
  · by_cases hh : j < k
    · simp only [hh, show j < k + 1 by omega]
    · simp only [hh, show ¬ j < k + 1 by omega]
theorem take_getD {α : Type} (u : List α) (k j : Nat) (d : α) (h : j < k) : (u.take k).getD j d = u.getD j d := by
  simp [List.getD, h]
theorem pvs_step (row : List V) (l : List X) (root k : Nat) (hl : root < l.length) (hk : k ≤ root) (h : (rea l root).getD k false = true) :
    pvs row l (rea l root) (root + 1) (k + 1) = (pvs row l (rea l root) (root + 1) k).set k (evO (l.getD k nulX) ((pvs row l (rea l root) (root + 1) k).take k) row) := by
  have hc := rea_closed l root k hk h
  have hv : evO (l.getD k nulX) ((pvs row l (rea l root) (root + 1) k).take k) row = (evs row l).getD k nul := by
    rw [evs_get row l k (by omega)]
    have e : l.getD k nulX = l[k] := by simp [List.getD, show k < l.length by omega]
    rw [e] at hc ⊢
    have hlen : ((pvs row l (rea l root) (root + 1) k).take k).length = k := by rw [List.length_take, pvs_len]; omega
    refine evO_same _ _ _ _ _ (by rw [hlen, evs_len, List.length_take]; omega) (fun ha => ?_) (fun hb => ?_) (fun _ => rfl)
    · rw [hlen] at ha
      have hlt := lgA_lt ha
      unfold atV
      rw [take_getD _ _ _ _ (by omega), pvs_at _ _ _ _ _ _ (by omega), if_pos ⟨by omega, hc.1 ha⟩, evs_take row l k _ (by omega) (by omega)]
    · rw [hlen] at hb
      have hlt := lgB_lt hb
      unfold atV
      rw [take_getD _ _ _ _ (by omega), pvs_at _ _ _ _ _ _ (by omega), if_pos ⟨by omega, hc.2 hb⟩, evs_take row l k _ (by omega) (by omega)]
  rw [hv]
  refine list_getD_ext _ _ nul (by simp [pvs_len]) fun j hj => ?_
  rw [pvs_len] at hj
  rw [pvs_at _ _ _ _ _ _ hj, getD_set _ _ _ _ _ (by rw [pvs_len]; omega), pvs_at _ _ _ _ _ _ hj]
  by_cases e : k = j
  · subst e; rw [if_pos ⟨by omega, h⟩, if_pos rfl]
  · rw [if_neg e]
    by_cases hh : j < k
    · simp only [hh, show j < k + 1 by omega]
    · simp only [hh, show ¬ j < k + 1 by omega]
theorem pvs_end (row : List V) (l : List X) (root : Nat) : (pvs row l (rea l root) (root + 1) (root + 1)).getD root nul = (evs row l).getD root nul := by
  rw [pvs_at _ _ _ _ _ _ (by omega), if_pos ⟨by omega, rea_root l root⟩]

/- the columns -/
def Uses (l : List X) (root : Nat) (c : Int) : Prop := ∃ i, i ≤ root ∧ (rea l root).getD i false = true ∧ (l.getD i nulX).op = 2 ∧ (l.getD i nulX).col = c
/-- the columns of what is reached below k, in the order of the expressions -/
def clP (l : List X) (R : List Bool) (k : Nat) : List Int := (List.range k).filterMap fun i => if R.getD i false = true ∧ (l.getD i nulX).op = 2 then some (l.getD i nulX).col else none
theorem clP_succ (l : List X) (R : List Bool) (k : Nat) : clP l R (k + 1) = clP l R k ++ (if R.getD k false = true ∧ (l.getD k nulX).op = 2 then [(l.getD k nulX).col] else []) := by
  unfold clP
  rw [List.range_succ, List.filterMap_append]
  congr 1
  simp only [List.filterMap_cons, List.filterMap_nil]
  split <;> simp_all
theorem clP_len (l : List X) (R : List Bool) (k : Nat) : (clP l R k).length ≤ k := by
  unfold clP; exact Nat.le_trans (List.length_filterMap_le _ _) (by simp)
theorem clP_mem (l : List X) (root : Nat) (c : Int) : c ∈ clP l (rea l root) (root + 1) ↔ Uses l root c := by
  simp only [clP, List.mem_filterMap, List.mem_range, Uses]
  constructor
  · rintro ⟨i, hi, h⟩
    split at h
    · next hh => exact ⟨i, by omega, hh.1, hh.2, by simpa using h⟩
    · exact absurd h (by simp)
  · rintro ⟨i, hi, h1, h2, h3⟩
    exact ⟨i, by omega, by rw [if_pos ⟨h1, h2⟩, h3]⟩
theorem cut_asc (d : Array Int) (hs : ∀ i j, i ≤ j → j < d.size → d[i]! ≤ d[j]!) : ∀ m, m ≤ d.size → Asc (Lib.compactUpTo d m) ∧ (∀ c, c ∈ Lib.compactUpTo d m ↔ ∃ j, j < m ∧ d[j]! = c)
  | 0, _ => by simp [Lib.compactUpTo, Asc]
  | m + 1, hm => by
    obtain ⟨h1, h2⟩ := cut_asc d hs m (by omega)
    rw [Lib.compactUpTo_succ]
    by_cases hz : 0 < m ∧ d[m]! = d[m - 1]!
    · rw [Lib.keeps_neg hz.1 hz.2]
      simp only [Bool.false_eq_true, if_false, List.append_nil]
      refine ⟨h1, fun c => (h2 c).trans ⟨fun ⟨j, hj, e⟩ => ⟨j, by omega, e⟩, fun ⟨j, hj, e⟩ => ?_⟩⟩
      by_cases hjm : j = m
      · subst hjm; exact ⟨j - 1, by omega, by rw [← hz.2]; exact e⟩
      · exact ⟨j, by omega, e⟩
    · have hk : Lib.keeps d m = true := by
        by_cases h0 : 0 < m
        · exact Lib.keeps_pos (fun e => hz ⟨h0, e⟩)
        · exact Lib.keeps_lt_one d m (by omega)
      rw [hk]
      simp only [if_true]
      constructor
      · refine List.pairwise_append.2 ⟨h1, by simp, fun x hx y hy => ?_⟩
        obtain ⟨j, hj, e⟩ := (h2 x).1 hx
        have hy' : y = d[m]! := by simpa using hy
        subst hy' e
        have a1 := hs j (m - 1) (by omega) (by omega)
        have a2 := hs (m - 1) m (by omega) (by omega)
        have a3 : d[m]! ≠ d[m - 1]! := fun e => hz ⟨by omega, e⟩
        omega
      · intro c
        rw [List.mem_append, h2 c]
        simp only [List.mem_singleton]
        constructor
        · rintro (⟨j, hj, e⟩ | e)
          · exact ⟨j, by omega, e⟩
          · exact ⟨m, by omega, e.symm⟩
        · rintro ⟨j, hj, e⟩
          by_cases hjm : j = m
          · subst hjm; exact Or.inr e.symm
          · exact Or.inl ⟨j, by omega, e⟩
theorem sort_cut (zs : List Int) : Asc (Lib.compact (zs.mergeSort fun x y => decide (x ≤ y))) ∧ (∀ c, c ∈ Lib.compact (zs.mergeSort fun x y => decide (x ≤ y)) ↔ c ∈ zs) := by
  have hp := List.mergeSort_perm zs (fun x y => decide (x ≤ y))
  have hs := List.pairwise_mergeSort (le := fun (x y : Int) => decide (x ≤ y)) (by intro a b c; simp; omega) (by intro a b; simp; omega) zs
  generalize zs.mergeSort (fun x y => decide (x ≤ y)) = ys at *
  have hm : ∀ i j, i ≤ j → j < ys.toArray.size → ys.toArray[i]! ≤ ys.toArray[j]! := by
    intro i j hij hj
    have hj' : j < ys.length := by simpa using hj
    by_cases e : i = j
    · subst e; exact Int.le_refl _
    · have := List.pairwise_iff_getElem.1 hs i j (by omega) hj' (by omega)
      simpa [show i < ys.length by omega, hj'] using this
  obtain ⟨h1, h2⟩ := cut_asc ys.toArray hm ys.length (by simp)
  refine ⟨h1, fun c => (h2 c).trans ((?_ : _ ↔ c ∈ ys).trans hp.mem_iff)⟩
  rw [List.mem_iff_getElem]
  constructor
  · rintro ⟨j, hj, e⟩; exact ⟨j, hj, by simpa [hj] using e⟩
  · rintro ⟨j, hj, e⟩; exact ⟨j, hj, by simpa [hj] using e⟩

/- types are kept -/
theorem booV_k (b : Bool) : (booV b).k = 3 := rfl
theorem calV_k (op : Int) (a b : V) : (calV op a b).k = 1 ∨ (calV op a b).k = 0 := by
  unfold calV numV; split
  · split
    · exact Or.inl rfl
    · exact Or.inr rfl
  · exact Or.inr rfl
/-- a row whose values have the kinds of the columns, or are Null -/
def Kinds (cols : List Int) (row : List V) : Prop := ∀ c : Int, isIx c cols.length = true → (colV row c).k = atI cols c ∨ (colV row c).k = 0
theorem evs_typed (cols : List Int) (row : List V) (hk : Kinds cols row) (l : List X) : ∀ n, ∀ k, k < n → k < l.length → ((chs cols l).getD k (0, 0)).2 = 0 → ((evs row l).getD k nul).k = ((chs cols l).getD k (0, 0)).1 ∨ ((evs row l).getD k nul).k = 0
  | 0, _, h, _, _ => absurd h (by omega)
  | n + 1, k, h, hl, he => by
    have ih := evs_typed cols row hk l n
    rw [evs_get row l k hl]
    rw [chs_get cols l k hl] at he ⊢
    have hpl : (chs cols (l.take k)).length = k := by rw [chs_len, List.length_take]; omega
    have hql : (evs row (l.take k)).length = k := by rw [evs_len, List.length_take]; omega
    generalize l[k] = x at *
    unfold chO at *
    by_cases h1 : ari x.op = -1 ∨ (x.op = 1 ∧ vldB x.c = false)
    · rw [if_pos h1] at he; exact absurd he (by decide)
    rw [if_neg h1] at he ⊢
    rw [hpl] at *
    by_cases h2 : lgl x k = false ∨ (x.op = 2 ∧ isIx x.col cols.length = false)
    · rw [if_pos h2] at he; exact absurd he (by decide)
    rw [if_neg h2] at he ⊢
    have hg : lgl x k = true := by
      cases hh : lgl x k with
      | true => rfl
      | false => exact absurd (Or.inl hh) h2
    unfold evO
    rw [hql, if_neg (by rw [hg]; decide)]
    by_cases h3 : ari x.op = 1
    · rw [if_pos h3] at he ⊢
      have hop : x.op = 10 ∨ x.op = 11 := by
        unfold ari at h3; split at h3
        · omega
        · split at h3
          · assumption
          · split at h3 <;> omega
      have hu : (unO x.op (atK (chs cols (l.take k)) x.a)).1 = 3 := by
        unfold unO at he ⊢
        split at he
        · next hh => exact absurd he hh
        · next hh =>
          rw [if_neg hh]
          split at he
          · exact absurd he (by decide)
          · next h5 => rw [if_neg h5]
      rw [hu, if_neg (by omega), if_neg (by omega), if_neg (by omega), if_neg (by omega)]
      rcases hop with e | e
      · rw [if_pos e]; exact Or.inl rfl
      · rw [if_neg (by omega), if_pos e]; exact Or.inl rfl
    rw [if_neg h3] at he ⊢
    by_cases h4 : ari x.op = 2
    · rw [if_pos h4] at he ⊢
      have hop : 3 ≤ x.op ∧ x.op ≤ 9 := by
        unfold ari at h4; split at h4
        · omega
        · split at h4
          · omega
          · split at h4 <;> omega
      rw [if_neg (by omega), if_neg (by omega)]
      unfold biO at he ⊢
      split at he
      · next hh => exact absurd he hh
      · next hh =>
        rw [if_neg hh]
        split at he
        · next hb => exact absurd he hb
        · next hb =>
          rw [if_neg hb]
          by_cases h5 : 3 ≤ x.op ∧ x.op ≤ 5
          · rw [if_pos h5] at he ⊢
            rw [if_pos h5]
            split at he
            · next h6 => rw [if_pos h6]; exact calV_k _ _ _
            · exact absurd he (by decide)
          · rw [if_neg h5] at he ⊢
            rw [if_neg h5, if_pos (by omega)]
            by_cases h7 : x.op = 6 ∨ x.op = 7
            · rw [if_pos h7] at he ⊢
              split at he
              · next h6 => rw [if_pos h6]; exact Or.inl rfl
              · exact absurd he (by decide)
            · rw [if_neg h7] at he ⊢
              split at he
              · next h6 => rw [if_pos h6]; exact Or.inl rfl
              · exact absurd he (by decide)
    rw [if_neg h4] at he ⊢
    by_cases h5 : x.op = 2
    · rw [if_pos h5, if_neg (by omega), if_pos h5]
      have : isIx x.col cols.length = true := by
        cases hh : isIx x.col cols.length with
        | true => rfl
        | false => exact absurd (Or.inr ⟨h5, hh⟩) h2
      exact hk _ this
    · have hop : x.op = 1 := by
        have hn : ari x.op ≠ -1 := fun e => h1 (Or.inl e)
        unfold ari at h3 h4 hn
        split at h3
        · omega
        · next hc =>
          rw [if_neg hc] at h4 hn
          split at h3
          · exact absurd rfl h3
          · next hd =>
            rw [if_neg hd] at h4 hn
            split at h4
            · exact absurd rfl h4
            · next hf => rw [if_neg hf] at hn; exact absurd rfl hn
      rw [if_pos hop, if_neg h5]; exact Or.inl rfl
/- only the columns that are used matter -/
theorem evs_local (l : List X) (root : Nat) (hr : root < l.length) (row row' : List V) (h : ∀ c, Uses l root c → colV row c = colV row' c) : ∀ n, ∀ k, k < n → k ≤ root → (rea l root).getD k false = true → (evs row l).getD k nul = (evs row' l).getD k nul
  | 0, _, hk, _, _ => absurd hk (by omega)
  | n + 1, k, hk, hkr, hR => by
    have ih := evs_local l root hr row row' h n
    have hc := rea_closed l root k hkr hR
    rw [evs_get row l k (by omega), evs_get row' l k (by omega)]
    have e : l.getD k nulX = l[k] := by simp [List.getD, show k < l.length by omega]
    have hu : l[k].op = 2 → Uses l root l[k].col := fun h2 => ⟨k, hkr, hR, by rw [e]; exact h2, by rw [e]⟩
    rw [e] at hc
    generalize l[k] = x at *
    have hlen : (evs row (l.take k)).length = k := by rw [evs_len, List.length_take]; omega
    refine evO_same _ _ _ _ _ (by rw [evs_len, evs_len]) (fun ha => ?_) (fun hb => ?_) (fun h2 => h _ (hu h2))
    · rw [hlen] at ha
      have hlt := lgA_lt ha
      unfold atV
      rw [evs_take row l k _ (by omega) (by omega), evs_take row' l k _ (by omega) (by omega)]
      exact ih _ (by omega) (by omega) (hc.1 ha)
    · rw [hlen] at hb
      have hlt := lgB_lt hb
      unfold atV
      rw [evs_take row l k _ (by omega) (by omega), evs_take row' l k _ (by omega) (by omega)]
      exact ih _ (by omega) (by omega) (hc.2 hb)
/- what stands behind the root does not matter -/
theorem rst_app (l m : List X) (i : Nat) (u : List Bool) (h : i < l.length) : rst (l ++ m) i u = rst l i u := by
  unfold rst; rw [getD_pre _ _ _ _ h]
theorem rdn_app (l m : List X) : ∀ n u, n ≤ l.length → rdn (l ++ m) n u = rdn l n u
  | 0, _, _ => rfl
  | n + 1, u, h => by rw [rdn, rdn, rst_app _ _ _ _ (by omega), rdn_app l m n _ (by omega)]
theorem rea_app (l m : List X) (root : Nat) (h : root < l.length) : rea (l ++ m) root = rea l root := rdn_app l m _ _ (by omega)
theorem uses_app (l m : List X) (root : Nat) (h : root < l.length) (c : Int) : Uses (l ++ m) root c ↔ Uses l root c := by
  unfold Uses
  rw [rea_app l m root h]
  constructor
  · rintro ⟨i, h0, h1, h2, h3⟩
    rw [getD_pre _ _ _ _ (by omega)] at h2 h3
    exact ⟨i, h0, h1, h2, h3⟩
  · rintro ⟨i, h0, h1, h2, h3⟩
    exact ⟨i, h0, h1, by rw [getD_pre _ _ _ _ (by omega)]; exact h2, by rw [getD_pre _ _ _ _ (by omega)]; exact h3⟩
end Go.Proofs.Ytdamlnfjhpmpmaa
