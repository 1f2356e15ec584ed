/- Expressions in plain lists: only what is reached matters; types are kept; columns are an ascending list. -/
import Derived.Test.YtfojeajmonnifaaGreatDoorZz01
import Derived.Test.YtfojeajmonnifaaGreatDoorZz02
import Derived.Test.YtfojeajmonnifaaGreatDoorZz09
namespace Go.Proofs.YtfojeajmonnifaaGreatDoor

/-- the value of a column, or none -/
def colV (row : List V) (c : Int) : V := if isIx c row.length = true then atV row c else nul
theorem lgA_of {x : X} {i : Int} (h : lgl x i = true) (ha : 1 ≤ ari x.op) : lgA x i = true := by
  simp only [lgl, lgA, Bool.and_eq_true, Bool.or_eq_true, decide_eq_true_eq] at *
  exact ⟨ha, h.1.resolve_left (by omega)⟩
theorem lgB_of {x : X} {i : Int} (h : lgl x i = true) (hb : ari x.op = 2) : lgB x i = true := by
  simp only [lgl, lgB, Bool.and_eq_true, Bool.or_eq_true, decide_eq_true_eq] at *
  exact ⟨hb, h.2.resolve_left (by omega)⟩
theorem ari_two (op : Int) (h0 : 3 ≤ op) (h1 : op ≤ 9) : ari op = 2 := by unfold ari; rw [if_neg (by omega), if_neg (by omega), if_pos ⟨h0, h1⟩]
theorem evO_same (x : X) (p q row row' : List V) (hl : p.length = q.length) (ha : lgA x p.length = true → atV p x.a = atV q x.a) (hb : lgB x p.length = true → atV p x.b = atV q x.b)
    (hr : x.op = 2 → colV row x.col = colV row' x.col) : evO x p row = evO x q row' := by
  unfold evO
  rw [← hl]
  by_cases hg : lgl x p.length = false
  · rw [if_pos hg, if_pos hg]
  have hg' : lgl x p.length = true := by simpa using hg
  rw [if_neg hg, if_neg hg]
  by_cases h1 : x.op = 1
  · rw [if_pos h1, if_pos h1]
  rw [if_neg h1, if_neg h1]
  by_cases h2 : x.op = 2
  · rw [if_pos h2, if_pos h2]; exact hr h2
  rw [if_neg h2, if_neg h2]
  by_cases h3 : 3 ≤ x.op ∧ x.op ≤ 5
  · have h9 := ari_two x.op (by omega) (by omega)
    rw [if_pos h3, if_pos h3, ha (lgA_of hg' (by omega)), hb (lgB_of hg' h9)]
  rw [if_neg h3, if_neg h3]
  by_cases h4 : 6 ≤ x.op ∧ x.op ≤ 9
  · have h9 := ari_two x.op (by omega) (by omega)
    rw [if_pos h4, if_pos h4, ha (lgA_of hg' (by omega)), hb (lgB_of hg' h9)]
  rw [if_neg h4, if_neg h4]
  by_cases h5 : x.op = 10
  · rw [if_pos h5, if_pos h5, ha (lgA_of hg' (by rw [h5]; decide))]
  rw [if_neg h5, if_neg h5]
  by_cases h6 : x.op = 11
  · rw [if_pos h6, if_pos h6, ha (lgA_of hg' (by rw [h6]; decide))]
  rw [if_neg h6, if_neg h6]

/- the values that the program keeps: those that are reached -/
def pvs (row : List V) (l : List X) (R : List Bool) (n k : Nat) : List V := (List.range n).map fun j => if j < k ∧ R.getD j false = true then (evs row l).getD j nul else nul
theorem pvs_len (row : List V) (l : List X) (R : List Bool) (n k : Nat) : (pvs row l R n k).length = n := by simp [pvs]
theorem pvs_zero (row : List V) (l : List X) (R : List Bool) (n : Nat) : pvs row l R n 0 = List.replicate n nul := by
  refine List.ext_getElem (by simp [pvs]) fun j h1 h2 => ?_
  rw [List.getElem_replicate]
  simp [pvs]
theorem pvs_at (row : List V) (l : List X) (R : List Bool) (n k j : Nat) (hj : j < n) : (pvs row l R n k).getD j nul = if j < k ∧ R.getD j false = true then (evs row l).getD j nul else nul := by
  rw [List.getD, pvs, List.getElem?_map, List.getElem?_range hj]; rfl
theorem list_getD_ext {α : Type} (a b : List α) (d : α) (hl : a.length = b.length) (h : ∀ j, j < a.length → a.getD j d = b.getD j d) : a = b := by
  refine List.ext_getElem hl fun j h1 h2 => ?_
  have := h j h1
  simpa [List.getD, h1, h2] using this
theorem getD_set {α : Type} (u : List α) (k j : Nat) (x d : α) (hk : k < u.length) : (u.set k x).getD j d = if k = j then x else u.getD j d := by
  simp only [List.getD, List.getElem?_set, hk, if_true]
  split <;> rfl
theorem pvs_skip (row : List V) (l : List X) (R : List Bool) (n k : Nat) (h : R.getD k false = false) : pvs row l R n (k + 1) = pvs row l R n k := by
  unfold pvs
  refine List.map_congr_left fun j _ => ?_
  by_cases hj : j = k
  · subst hj; rw [if_neg (fun x => by rw [h] at x; exact absurd x.2 (by simp)), if_neg (fun x => by omega)]
  · by_cases hh : j < k
    · simp only [hh, show j < k + 1 by omega]
    · simp only [hh, show ¬ j < k + 1 by omega]
theorem take_getD {α : Type} (u : List α) (k j : Nat) (d : α) (h : j < k) : (u.take k).getD j d = u.getD j d := by
  simp [List.getD, h]
theorem pvs_step (row : List V) (l : List X) (root k : Nat) (hl : root < l.length) (hk : k ≤ root) (h : (rea l root).getD k false = true) :
    pvs row l (rea l root) (root + 1) (k + 1) = (pvs row l (rea l root) (root + 1) k).set k (evO (l.getD k nulX) ((pvs row l (rea l root) (root + 1) k).take k) row) := by
  have hc := rea_closed l root k hk h
  have hv : evO (l.getD k nulX) ((pvs row l (rea l root) (root + 1) k).take k) row = (evs row l).getD k nul := by
    rw [evs_get row l k (by omega)]
    have e : l.getD k nulX = l[k] := by simp [List.getD, show k < l.length by omega]
    rw [e] at hc ⊢
    have hlen : ((pvs row l (rea l root) (root + 1) k).take k).length = k := by rw [List.length_take, pvs_len]; omega
    refine evO_same _ _ _ _ _ (by rw [hlen, evs_len, List.length_take]; omega) (fun ha => ?_) (fun hb => ?_) (fun _ => rfl)
    · rw [hlen] at ha
      have hlt := lgA_lt ha
      unfold atV
      rw [take_getD _ _ _ _ (by omega), pvs_at _ _ _ _ _ _ (by omega), if_pos ⟨by omega, hc.1 ha⟩, evs_take row l k _ (by omega) (by omega)]
    · rw [hlen] at hb
      have hlt := lgB_lt hb
      unfold atV
      rw [take_getD _ _ _ _ (by omega), pvs_at _ _ _ _ _ _ (by omega), if_pos ⟨by omega, hc.2 hb⟩, evs_take row l k _ (by omega) (by omega)]
  rw [hv]
  refine list_getD_ext _ _ nul (by simp [pvs_len]) fun j hj => ?_
  rw [pvs_len] at hj
  rw [pvs_at _ _ _ _ _ _ hj, getD_set _ _ _ _ _ (by rw [pvs_len]; omega), pvs_at _ _ _ _ _ _ hj]
  by_cases e : k = j
  · subst e; rw [if_pos ⟨by omega, h⟩, if_pos rfl]
  · rw [if_neg e]
    by_cases hh : j < k
    · simp only [hh, show j < k + 1 by omega]
    · simp only [hh, show ¬ j < k + 1 by omega]
theorem pvs_end (row : List V) (l : List X) (root : Nat) : (pvs row l (rea l root) (root + 1) (root + 1)).getD root nul = (evs row l).getD root nul := by
  rw [pvs_at _ _ _ _ _ _ (by omega), if_pos ⟨by omega, rea_root l root⟩]

/- the columns -/
def Uses (l : List X) (root : Nat) (c : Int) : Prop := ∃ i, i ≤ root ∧ (rea l root).getD i false = true ∧ (l.getD i nulX).op = 2 ∧ (l.getD i nulX).col = c
/-- the columns of what is reached below k, in the order of the expressions -/
def clP (l : List X) (R : List Bool) (k : Nat) : List Int := (List.range k).filterMap fun i => if R.getD i false = true ∧ (l.getD i nulX).op = 2 then some (l.getD i nulX).col else none
theorem clP_succ (l : List X) (R : List Bool) (k : Nat) : clP l R (k + 1) = clP l R k ++ (if R.getD k false = true ∧ (l.getD k nulX).op = 2 then [(l.getD k nulX).col] else []) := by
  unfold clP
  rw [List.range_succ, List.filterMap_append]
  congr 1
  simp only [List.filterMap_cons, List.filterMap_nil]
  split <;> simp_all
theorem clP_len (l : List X) (R : List Bool) (k : Nat) : (clP l R k).length ≤ k := by
  unfold clP; exact Nat.le_trans (List.length_filterMap_le _ _) (by simp)
theorem clP_mem (l : List X) (root : Nat) (c : Int) : c ∈ clP l (rea l root) (root + 1) ↔ Uses l root c := by
  simp only [clP, List.mem_filterMap, List.mem_range, Uses]
  constructor
  · rintro ⟨i, hi, h⟩
    split at h
    · next hh => exact ⟨i, by omega, hh.1, hh.2, by simpa using h⟩
    · exact absurd h (by simp)
  · rintro ⟨i, hi, h1, h2, h3⟩
    exact ⟨i, by omega, by rw [if_pos ⟨h1, h2⟩, h3]⟩
/- types are kept -/
theorem booV_k (b : Bool) : (booV b).k = 3 := rfl
theorem calV_k (op : Int) (a b : V) : (calV op a b).k = 1 ∨ (calV op a b).k = 0 := by
  unfold calV numV; split
  · split
    · exact Or.inl rfl
    · exact Or.inr rfl
  · exact Or.inr rfl
/-- a row whose values have the kinds of the columns, or are Null -/
def Kinds (cols : List Int) (row : List V) : Prop := ∀ c : Int, isIx c cols.length = true → (colV row c).k = atI cols c ∨ (colV row c).k = 0
theorem evs_typed (cols : List Int) (row : List V) (hk : Kinds cols row) (l : List X) : ∀ n, ∀ k, k < n → k < l.length → ((chs cols l).getD k (0, 0)).2 = 0 → ((evs row l).getD k nul).k = ((chs cols l).getD k (0, 0)).1 ∨ ((evs row l).getD k nul).k = 0
  | 0, _, h, _, _ => absurd h (by omega)
  | n + 1, k, h, hl, he => by
    have ih := evs_typed cols row hk l n
    rw [evs_get row l k hl]
    rw [chs_get cols l k hl] at he ⊢
    have hpl : (chs cols (l.take k)).length = k := by rw [chs_len, List.length_take]; omega
    have hql : (evs row (l.take k)).length = k := by rw [evs_len, List.length_take]; omega
    generalize l[k] = x at *
    unfold chO at *
    by_cases h1 : ari x.op = -1 ∨ (x.op = 1 ∧ vldB x.c = false)
    · rw [if_pos h1] at he; exact absurd he (by decide)
    rw [if_neg h1] at he ⊢
    rw [hpl] at *
    by_cases h2 : lgl x k = false ∨ (x.op = 2 ∧ isIx x.col cols.length = false)
    · rw [if_pos h2] at he; exact absurd he (by decide)
    rw [if_neg h2] at he ⊢
    have hg : lgl x k = true := by
      cases hh : lgl x k with
      | true => rfl
      | false => exact absurd (Or.inl hh) h2
    unfold evO
    rw [hql, if_neg (by rw [hg]; decide)]
    by_cases h3 : ari x.op = 1
    · rw [if_pos h3] at he ⊢
      have hop : x.op = 10 ∨ x.op = 11 := by
        unfold ari at h3; split at h3
        · omega
        · split at h3
          · assumption
          · split at h3 <;> omega
      have hu : (unO x.op (atK (chs cols (l.take k)) x.a)).1 = 3 := by
        unfold unO at he ⊢
        split at he
        · next hh => exact absurd he hh
        · next hh =>
          rw [if_neg hh]
          split at he
          · exact absurd he (by decide)
          · next h5 => rw [if_neg h5]
      rw [hu, if_neg (by omega), if_neg (by omega), if_neg (by omega), if_neg (by omega)]
      rcases hop with e | e
      · rw [if_pos e]; exact Or.inl rfl
      · rw [if_neg (by omega), if_pos e]; exact Or.inl rfl
    rw [if_neg h3] at he ⊢
    by_cases h4 : ari x.op = 2
    · rw [if_pos h4] at he ⊢
      have hop : 3 ≤ x.op ∧ x.op ≤ 9 := by
        unfold ari at h4; split at h4
        · omega
        · split at h4
          · omega
          · split at h4 <;> omega
      rw [if_neg (by omega), if_neg (by omega)]
      unfold biO at he ⊢
      split at he
      · next hh => exact absurd he hh
      · next hh =>
        rw [if_neg hh]
        split at he
        · next hb => exact absurd he hb
        · next hb =>
          rw [if_neg hb]
          by_cases h5 : 3 ≤ x.op ∧ x.op ≤ 5
          · rw [if_pos h5] at he ⊢
            rw [if_pos h5]
            split at he
            · next h6 => rw [if_pos h6]; exact calV_k _ _ _
            · exact absurd he (by decide)
          · rw [if_neg h5] at he ⊢
            rw [if_neg h5, if_pos (by omega)]
            by_cases h7 : x.op = 6 ∨ x.op = 7
            · rw [if_pos h7] at he ⊢
              split at he
              · next h6 => rw [if_pos h6]; exact Or.inl rfl
              · exact absurd he (by decide)
            · rw [if_neg h7] at he ⊢
              split at he
              · next h6 => rw [if_pos h6]; exact Or.inl rfl
              · exact absurd he (by decide)
    rw [if_neg h4] at he ⊢
    by_cases h5 : x.op = 2
    · rw [if_pos h5, if_neg (by omega), if_pos h5]
      have : isIx x.col cols.length = true := by
        cases hh : isIx x.col cols.length with
        | true => rfl
        | false => exact absurd (Or.inr ⟨h5, hh⟩) h2
      exact hk _ this
    · have hop : x.op = 1 := by
        have hn : ari x.op ≠ -1 := fun e => h1 (Or.inl e)
        unfold ari at h3 h4 hn
        split at h3
        · omega
        · next hc =>
          rw [if_neg hc] at h4 hn
          split at h3
          · exact absurd rfl h3
          · next hd =>
            rw [if_neg hd] at h4 hn
            split at h4
            · exact absurd rfl h4
            · next hf => rw [if_neg hf] at hn; exact absurd rfl hn
      rw [if_pos hop, if_neg h5]; exact Or.inl rfl
/- only the columns that are used matter -/
theorem evs_local (l : List X) (root : Nat) (hr : root < l.length) (row row' : List V) (h : ∀ c, Uses l root c → colV row c = colV row' c) : ∀ n, ∀ k, k < n → k ≤ root → (rea l root).getD k false = true → (evs row l).getD k nul = (evs row' l).getD k nul
  | 0, _, hk, _, _ => absurd hk (by omega)
  | n + 1, k, hk, hkr, hR => by
    have ih := evs_local l root hr row row' h n
    have hc := rea_closed l root k hkr hR
    rw [evs_get row l k (by omega), evs_get row' l k (by omega)]
    have e : l.getD k nulX = l[k] := by simp [List.getD, show k < l.length by omega]
    have hu : l[k].op = 2 → Uses l root l[k].col := fun h2 => ⟨k, hkr, hR, by rw [e]; exact h2, by rw [e]⟩
    rw [e] at hc
    generalize l[k] = x at *
    have hlen : (evs row (l.take k)).length = k := by rw [evs_len, List.length_take]; omega
    refine evO_same _ _ _ _ _ (by rw [evs_len, evs_len]) (fun ha => ?_) (fun hb => ?_) (fun h2 => h _ (hu h2))
    · rw [hlen] at ha
      have hlt := lgA_lt ha
      unfold atV
      rw [evs_take row l k _ (by omega) (by omega), evs_take row' l k _ (by omega) (by omega)]
      exact ih _ (by omega) (by omega) (hc.1 ha)
    · rw [hlen] at hb
      have hlt := lgB_lt hb
      unfold atV
      rw [evs_take row l k _ (by omega) (by omega), evs_take row' l k _ (by omega) (by omega)]
      exact ih _ (by omega) (by omega) (hc.2 hb)
/- what stands behind the root does not matter -/
theorem rst_app (l m : List X) (i : Nat) (u : List Bool) (h : i < l.length) : rst (l ++ m) i u = rst l i u := by
  unfold rst; rw [getD_pre _ _ _ _ h]
theorem rdn_app (l m : List X) : ∀ n u, n ≤ l.length → rdn (l ++ m) n u = rdn l n u
  | 0, _, _ => rfl
  | n + 1, u, h => by rw [rdn, rdn, rst_app _ _ _ _ (by omega), rdn_app l m n _ (by omega)]
theorem rea_app (l m : List X) (root : Nat) (h : root < l.length) : rea (l ++ m) root = rea l root := rdn_app l m _ _ (by omega)
theorem uses_app (l m : List X) (root : Nat) (h : root < l.length) (c : Int) : Uses (l ++ m) root c ↔ Uses l root c := by
  unfold Uses
  rw [rea_app l m root h]
  constructor
  · rintro ⟨i, h0, h1, h2, h3⟩
    rw [getD_pre _ _ _ _ (by omega)] at h2 h3
    exact ⟨i, h0, h1, h2, h3⟩
  · rintro ⟨i, h0, h1, h2, h3⟩
    exact ⟨i, h0, h1, by rw [getD_pre _ _ _ _ (by omega)]; exact h2, by rw [getD_pre _ _ _ _ (by omega)]; exact h3⟩
end Go.Proofs.YtfojeajmonnifaaGreatDoor
/- Check, of the program. -/
namespace Go.Proofs.YtfojeajmonnifaaGreatDoor
open Go.ChangeShapes Go.WideShapes Go.ChangeAt Go.RowKit

/-- a list that is filled up -/
def fil {α : Type} (a : List α) (n : Nat) (z : α) : List α := a ++ List.replicate (n - a.length) z
theorem fil_len {α : Type} (a : List α) (n : Nat) (z : α) (h : a.length ≤ n) : (fil a n z).length = n := by simp [fil]; omega
theorem fil_nil {α : Type} (n : Nat) (z : α) : fil [] n z = List.replicate n z := by simp [fil]
theorem fil_full {α : Type} (a : List α) (n : Nat) (z : α) (h : a.length = n) : fil a n z = a := by subst h; simp [fil]
theorem fil_take {α : Type} (a : List α) (n k : Nat) (z : α) (h : a.length = k) : (fil a n z).take k = a := by subst h; simp [fil]
theorem fil_set {α : Type} (a : List α) (n k : Nat) (z x : α) (hk : a.length = k) (h : k < n) : (fil a n z).set k x = fil (a ++ [x]) n z := by
  subst hk
  unfold fil
  obtain ⟨m, hm⟩ : ∃ m, n - a.length = m + 1 := ⟨n - a.length - 1, by omega⟩
  rw [hm, List.set_append_right _ _ (Nat.le_refl _), Nat.sub_self, List.replicate_succ, List.set_cons_zero, List.append_assoc, List.length_append, show n - (a.length + [x].length) = m by simp; omega]
  rfl
theorem ret_k2 {a b : Int} {p : Int × Int} (h : p = (a, b)) : Ending.returned (.tuple #[.int .i64 a, .int .i64 b]) = .returned (.tuple #[.int .i64 p.1, .int .i64 p.2]) := by rw [h]
theorem Arr.put2 {e : TypeId} {W w : World} {g : Nat} {l : List (Int × Int)} (h : Arr e W w g l) (i : Nat) (p q : Int) (hi : i < l.length) : Arr e W ((w.setCell ⟨g, i * 2, none⟩ (.int .i64 p)).setCell ⟨g, i * 2 + 1, none⟩ (.int .i64 q)) g (l.set i (p, q)) := (h.put i (p, q) hi).1
theorem Arr.rdTake {α : Type} [Enc α] {e : TypeId} {W w : World} {g n k : Nat} {a : List α} {z : α} (h : Arr e W w g (fil a n z)) (hk : a.length = k) (hn : k ≤ n) : RdG w (.slice (some ⟨g, 0, none⟩) k n) a := by
  have h1 := h.rd.take k (by rw [fil_len _ _ _ (by omega)]; exact hn)
  rw [fil_take a n k z hk] at h1
  rw [fil_len _ _ _ (by omega)] at h1
  exact h1
theorem fil_at {α : Type} (a : List α) (n k : Nat) (z : α) (hk : a.length = k) (h : k < n) (h' : k < (fil a n z).length) : (fil a n z)[k] = z := by
  subst hk; simp [fil]
theorem Arr.z2 {e : TypeId} {W w : World} {g n k : Nat} {a : List (Int × Int)} (h : Arr e W w g (fil a n (0, 0))) (hk : a.length = k) (hn : k < n) : w.cell? ⟨g, k * 2, none⟩ = some (.int .i64 0) ∧ w.cell? ⟨g, k * 2 + 1, none⟩ = some (.int .i64 0) := by
  have hl : k < (fil a n ((0 : Int), (0 : Int))).length := by rw [fil_len _ _ _ (by omega)]; exact hn
  have e := fil_at a n k (0, 0) hk hn hl
  exact ⟨h.cell k 0 _ hl (by rw [e]; rfl), h.cell k 1 _ hl (by rw [e]; rfl)⟩
def CkR (w : World) (l : List X) (cols : List Int) (r : Nat) (i : Value) (wr : World) : Prop := ∃ k : Nat, k ≤ r + 1 ∧ i = .int .i64 k ∧ Arr tK.e w wr w.heap.size (fil (chs cols (l.take k)) (r + 1) (0, 0))
theorem chs_tlen (cols : List Int) (l : List X) (k : Nat) (h : k ≤ l.length) : (chs cols (l.take k)).length = k := by rw [chs_len, List.length_take]; omega
set_option maxHeartbeats 4000000 in
set_option maxRecDepth 100000 in
theorem check_prg (l : List X) (root : Int) (cols : List Int) (vl vc : Value) (w : World) (hl : RdG w vl l) (hc : RdG w vc cols) :
    Calls Tryz.prog 167 #[vl, .int .i64 root, vc] w fun e w' => e = .returned (.tuple #[.int .i64 (chkV l root cols).1, .int .i64 (chkV l root cols).2]) ∧ Ext w w' := by
  obtain ⟨al, cl, rfl, ll1, ll2⟩ := hl.shape
  obtain ⟨ac, cc, rfl, lc1, lc2⟩ := hc.shape
  have HL := Lib.hid hl
  have HC := Lib.hid hc
  clear hl hc
  unfold maxLen at ll2 lc2
  have hI := isx_prg root l.length
  by_cases hlen : 200 < l.length
  · have H := Lib.hid (show chkV l root cols = (0, 4) by unfold chkV; rw [if_pos hlen])
    have hlen' : (200 : Int) < (l.length : Int) := by omega
    clear hI
    go_enter Tryz.func167, Tryz.ntmps167
    go_wp2_with fail
    go_ret2
    exact ⟨ret_k2 H.out, Ext.refl _⟩
  have hlen' : ¬ (200 : Int) < (l.length : Int) := by omega
  cases hb : isIx root l.length with
  | false =>
    have H := Lib.hid (show chkV l root cols = (0, 10) by unfold chkV; rw [if_neg hlen, if_pos hb])
    rw [hb] at hI
    have HI := Lib.hid hI
    clear hI hb
    go_enter Tryz.func167, Tryz.ntmps167
    go_wp2_with fail
    refine (HI.out _).mono ?_; rintro e w1 ⟨rfl, rfl⟩
    go_wp2_with fail
    go_ret2
    exact ⟨ret_k2 H.out, Ext.refl _⟩
  | true =>
    have hx := (isIx_iff _ _).1 hb
    obtain ⟨r, rfl⟩ := nat_of hx.1
    have hr : r < l.length := by omega
    have H := Lib.hid (show chkV l r cols = (chs cols (l.take (r + 1))).getD r (0, 0) by unfold chkV; rw [if_neg hlen, if_neg (by rw [hb]; decide), chs_take cols l (r + 1) r (by omega) (by omega)]; rfl)
    rw [hb] at hI
    have HI := Lib.hid hI
    clear hI hb hx
    obtain ⟨n, hn⟩ : ∃ n, n = l.length := ⟨_, rfl⟩
    obtain ⟨m, hm⟩ : ∃ m, m = cols.length := ⟨_, rfl⟩
    have HN := Lib.hid hn
    have HM := Lib.hid hm
    rw [← hn] at HL HI ll1 hlen hlen' hr ⊢
    rw [← hm] at HC lc1 ⊢
    clear hn hm
    have e1 : (0 : Int) ≤ (r : Int) + 1 := by omega
    have e2 : (r : Int) + 1 ≤ (cl : Int) := by omega
    go_enter Tryz.func167, Tryz.ntmps167
    go_wp2_with fail
    refine (HI.out _).mono ?_; rintro e w1 ⟨rfl, rfl⟩
    go_wp2_with (at_make; refine makeG tK rfl _ _ rfl w (Ext.refl _) ((r : Int) + 1) ((r : Int) + 1) (r + 1) rfl rfl (by omega) (by omega) (by omega) ?_; intro w1 hA hE1)
    have hB : w.heap.size < w1.heap.size := hA.lo.2
    go_loopw [27] (CkR w l cols r) (fun i _ => r + 1 - (intOf i).toNat)
    case atStart => exact ⟨0, by omega, rfl, by rw [List.take_zero]; show Arr tK.e w w1 w.heap.size (fil [] (r + 1) (0, 0)); rw [fil_nil]; exact hA⟩
    case round =>
      obtain ⟨k, hk, rfl, hAr⟩ := hrel
      have hrn : r < l.length := by rw [← HN.out]; exact hr
      by_cases hlt : k < r + 1
      · have hkl : k < l.length := by omega
        have hi1 : (k : Int) < (r : Int) + 1 := by omega
        have hi0 : (0 : Int) ≤ (k : Int) := by omega
        have hi2 : (k : Int) ≤ (r : Int) + 1 := by omega
        have hi3 : (k : Int) ≤ ((r + 1 : Nat) : Int) := by omega
        have hi4 : (k : Int) < ((r + 1 : Nat) : Int) := by omega
        obtain ⟨g, o, rfl, c0, c1, c2, c3, c4, c5, c6⟩ := rd_X HL.out k hkl
        have hgl : g < w.heap.size := World.block_lt_of_cell? _ _ c0
        have hS := Lib.hid (chs_succ cols l k hkl)
        have hpl := chs_tlen cols l k (by omega)
        have hP := hAr.rdTake hpl (by omega)
        have hCl := Lib.hid (chs_clean cols (l.take k))
        have hO := Lib.hid (one_prg l[k] (chs cols (l.take k)) cols)
        generalize hpr : chO l[k] (chs cols (l.take k)) cols = pq at *
        obtain ⟨p, q⟩ := pq
        have HPR := Lib.hid hpr
        clear hpr
        generalize l[k] = x at *
        obtain ⟨xop, xa, xb, xc, ⟨xk, xn, xs⟩⟩ := x
        simp only at c0 c1 c2 c3 c4 c5 c6
        have C0 := hAr.2.keeps c0
        have C1 := hAr.2.keeps c1
        have C2 := hAr.2.keeps c2
        have C3 := hAr.2.keeps c3
        have C4 := hAr.2.keeps c4
        have C5 := hAr.2.keeps c5
        have C6 := hAr.2.keeps c6
        clear c0 c1 c2 c3 c4 c5 c6
        go_wp2_with fail
        have hE0 : Ext wr (wr.alloc (.cells #[.int .i64 xop, .int .i64 xa, .int .i64 xb, .int .i64 xc, .int .i64 xk, .int .i64 xn, sv xs] 80)) := (Ext.refl _).alloc _ _
        have b0 := al_c wr #[.int .i64 xop, .int .i64 xa, .int .i64 xb, .int .i64 xc, .int .i64 xk, .int .i64 xn, sv xs] 80 0 (.int .i64 xop) rfl
        have b1 := al_c wr #[.int .i64 xop, .int .i64 xa, .int .i64 xb, .int .i64 xc, .int .i64 xk, .int .i64 xn, sv xs] 80 1 (.int .i64 xa) rfl
        have b2 := al_c wr #[.int .i64 xop, .int .i64 xa, .int .i64 xb, .int .i64 xc, .int .i64 xk, .int .i64 xn, sv xs] 80 2 (.int .i64 xb) rfl
        have b3 := al_c wr #[.int .i64 xop, .int .i64 xa, .int .i64 xb, .int .i64 xc, .int .i64 xk, .int .i64 xn, sv xs] 80 3 (.int .i64 xc) rfl
        have b4 := al_c wr #[.int .i64 xop, .int .i64 xa, .int .i64 xb, .int .i64 xc, .int .i64 xk, .int .i64 xn, sv xs] 80 4 (.int .i64 xk) rfl
        have b5 := al_c wr #[.int .i64 xop, .int .i64 xa, .int .i64 xb, .int .i64 xc, .int .i64 xk, .int .i64 xn, sv xs] 80 5 (.int .i64 xn) rfl
        have b6 := al_c wr #[.int .i64 xop, .int .i64 xa, .int .i64 xb, .int .i64 xc, .int .i64 xk, .int .i64 xn, sv xs] 80 6 (sv xs) rfl
        generalize wr.alloc (.cells #[.int .i64 xop, .int .i64 xa, .int .i64 xb, .int .i64 xc, .int .i64 xk, .int .i64 xn, sv xs] 80) = W0 at hE0 b0 b1 b2 b3 b4 b5 b6 ⊢
        have B0 := Lib.hid b0
        have B1 := Lib.hid b1
        have B2 := Lib.hid b2
        have B3 := Lib.hid b3
        have B4 := Lib.hid b4
        have B5 := Lib.hid b5
        have B6 := Lib.hid b6
        have n0 : w.heap.size ≠ wr.heap.size := by have := hAr.lo.2; omega
        have hA0 := hAr.ext hE0
        have hP0 := hP.ext hE0
        have hC0 := HC.out.ext hA0.2
        have hbl : wr.heap.size < W0.heap.size := World.block_lt_of_cell? _ _ b0
        have hHA := Lib.hid hA0
        have HP0 := Lib.hid hP0
        have HC0 := Lib.hid hC0
        have hHE := Lib.hid hE0
        clear hP hP0 hC0 hE0 b0 b1 b2 b3 b4 b5 b6 hA0 C0 C1 C2 C3 C4 C5 C6
        go_region_held3 (fun w' => w'.cell? ⟨wr.heap.size, 0, none⟩ = some (.int .i64 xop) ∧ w'.cell? ⟨wr.heap.size, 1, none⟩ = some (.int .i64 xa) ∧ w'.cell? ⟨wr.heap.size, 2, none⟩ = some (.int .i64 xb) ∧ w'.cell? ⟨wr.heap.size, 3, none⟩ = some (.int .i64 xc) ∧ w'.cell? ⟨wr.heap.size, 4, none⟩ = some (.int .i64 xk) ∧ w'.cell? ⟨wr.heap.size, 5, none⟩ = some (.int .i64 xn) ∧ w'.cell? ⟨wr.heap.size, 6, none⟩ = some (sv xs)) (first | exact ⟨B0.out, B1.out, B2.out, B3.out, B4.out, B5.out, B6.out⟩ | exact ⟨f0, f1, f2, f3, f4, f5, f6⟩ | exact ⟨set2far n0 f0, set2far n0 f1, set2far n0 f2, set2far n0 f3, set2far n0 f4, set2far n0 f5, set2far n0 f6⟩ | go_keep)
          (first | (go_at_call 186; refine (heldE W0 (hO.out _ _ _ (HP0.out.ext ?_) (HC0.out.ext ?_) hCl.out) ?_).mono ?_; (first | assumption | exact Ext.refl _ | exact (Ext.refl _).drew); (first | assumption | exact Ext.refl _ | exact (Ext.refl _).drew); (first | assumption | exact Ext.refl _ | exact (Ext.refl _).drew); rintro e w3 ⟨rfl, -, qG⟩; have f0 := qG.keeps B0.out; have f1 := qG.keeps B1.out; have f2 := qG.keeps B2.out; have f3 := qG.keeps B3.out; have f4 := qG.keeps B4.out; have f5 := qG.keeps B5.out; have f6 := qG.keeps B6.out; have hA3 := hHA.out.ext qG; obtain ⟨z0, z1⟩ := hA3.z2 hpl hlt; have y0 := hA3.frozen (k * 2); have y1 := hA3.frozen (k * 2 + 1); have hs3 := hA3.lo.2))
        have hA4 := hA3.put2 k p q (by rw [fil_len _ _ _ (by omega)]; omega)
        rw [fil_set _ _ _ _ _ hpl hlt, ← hS.out] at hA4
        go_wp2_with fail
        go_roundw
        case rel => exact ⟨k + 1, by omega, by go_num, hA4⟩
        case measure => simp [intOf]; omega
      · have hke : k = r + 1 := by omega
        subst hke
        have hpl := chs_tlen cols l (r + 1) (by omega)
        rw [fil_full _ _ _ hpl] at hAr
        have hrl : r < (chs cols (l.take (r + 1))).length := by rw [hpl]; omega
        have c0 := hAr.cell r 0 _ hrl rfl
        have c1 := hAr.cell r 1 _ hrl rfl
        have H2 := Lib.hid (H.out.trans (getD_at _ _ r hrl))
        generalize (chs cols (l.take (r + 1)))[r] = pq at *
        obtain ⟨p, q⟩ := pq
        have D0 : wr.cell? ⟨w.heap.size, r * 2, none⟩ = some (.int .i64 p) := c0
        have D1 : wr.cell? ⟨w.heap.size, r * 2 + 1, none⟩ = some (.int .i64 q) := c1
        have hE := hAr.2
        have hi0 : (0 : Int) ≤ (r : Int) := by omega
        have hi1 : (r : Int) < (r : Int) + 1 := by omega
        have hi4 : (r : Int) < ((r + 1 : Nat) : Int) := by omega
        have hend : decide (((r + 1 : Nat) : Int) < (r : Int) + 1) = false := by simp
        clear c0 c1
        go_wp2_with fail
        go_quiet (fail)
        go_wp2_with fail
        go_ret2
        exact ⟨ret_k2 H2.out, hE⟩
end Go.Proofs.YtfojeajmonnifaaGreatDoor
