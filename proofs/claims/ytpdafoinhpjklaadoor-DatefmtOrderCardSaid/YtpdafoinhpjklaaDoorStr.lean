/- The texts of days and periods as lists of bytes, and what they read as: plain lists and integers, no program. -/
import Derived.Test.YtpdafoinhpjklaaDoorCal3
import Derived.Lib.ItoaNum
namespace Go.Proofs.YtpdafoinhpjklaaDoor.Cal

/-- a digit -/
def dch (n : Int) : UInt8 := UInt8.ofNat (48 + n.toNat % 10)
def d2 (n : Int) : List UInt8 := [dch (n / 10), dch n]
def d4 (n : Int) : List UInt8 := [dch (n / 1000), dch (n / 100), dch (n / 10), dch n]
def foreverL : List UInt8 := [102, 111, 114, 101, 118, 101, 114]
def date (y m d : Int) : List UInt8 :=
  [dch (y / 1000), dch (y / 100), dch (y / 10), dch y, 45, dch (m / 10), dch m, 45, dch (d / 10), dch d]
def fday (n : Int) : List UInt8 := if n = 1000000 then foreverL else if isDayB n = true then date (tdY n) (tdM n) (tdD n) else []
def fper (a b : Int) : List UInt8 := if 0 ≤ a ∧ a < b ∧ b ≤ 1000000 then [91] ++ fday a ++ [44, 32] ++ fday b ++ [41] else []
def isDig (c : UInt8) : Bool := decide (48 ≤ c.toNat ∧ c.toNat ≤ 57)
def dv (c : UInt8) : Int := (c.toNat : Int) - 48
def okAt (j : Nat) (c : UInt8) : Bool := if j = 4 ∨ j = 7 then decide (c.toNat = 45) else isDig c
def form (l : List UInt8) : Bool := decide (l.length = 10) && (List.range 10).all fun j => okAt j (l.getD j 0)
def yOf (l : List UInt8) : Int := 1000 * dv (l.getD 0 0) + 100 * dv (l.getD 1 0) + 10 * dv (l.getD 2 0) + dv (l.getD 3 0)
def mOf (l : List UInt8) : Int := 10 * dv (l.getD 5 0) + dv (l.getD 6 0)
def dOf (l : List UInt8) : Int := 10 * dv (l.getD 8 0) + dv (l.getD 9 0)
def pdE (l : List UInt8) : Int := if l = foreverL then 0 else if form l = true then (if fdB (yOf l) (mOf l) (dOf l) = true then 0 else 10) else 5
def pdV (l : List UInt8) : Int := if l = foreverL then 1000000 else if form l = true then fdV (yOf l) (mOf l) (dOf l) else 0
/-- l is a period's text with the days' texts f and g -/
def Splits (l f g : List UInt8) : Prop := l = [91] ++ f ++ [44, 32] ++ g ++ [41] ∧ (44 : UInt8) ∉ f ∧ (41 : UInt8) ∉ g
def ppE (f g : List UInt8) : Int := if pdE f ≠ 0 then pdE f else if pdE g ≠ 0 then pdE g else if pdV g ≤ pdV f then 10 else 0
def ppA (f g : List UInt8) : Int := if ppE f g = 0 then pdV f else 0
def ppB (f g : List UInt8) : Int := if ppE f g = 0 then pdV g else 0

theorem dch_toNat (n : Int) : (dch n).toNat = 48 + n.toNat % 10 := by
  unfold dch; rw [UInt8.toNat_ofNat']; omega
theorem dch_dig (n : Int) : isDig (dch n) = true := by unfold isDig; rw [dch_toNat]; simp; omega
theorem dv_dch (n : Int) (h : 0 ≤ n) : dv (dch n) = n % 10 := by unfold dv; rw [dch_toNat]; omega
theorem dch_dv (c : UInt8) (n : Int) (h : isDig c = true) (k : Int) (e : n = 10 * k + dv c) (hk : 0 ≤ k) : dch n = c := by
  apply UInt8.toNat_inj.1
  rw [dch_toNat]
  unfold isDig at h; unfold dv at e
  simp only [decide_eq_true_eq] at h
  omega
theorem isDig_bd {c : UInt8} (h : isDig c = true) : 0 ≤ dv c ∧ dv c ≤ 9 := by
  unfold isDig at h; unfold dv; simp only [decide_eq_true_eq] at h; omega

theorem dec_one (n : Int) (h0 : 0 ≤ n) (h1 : n < 10) : Lib.decDigits n.toNat = [dch n] := by
  rw [Lib.decDigits_one (by omega)]; unfold dch; rw [Nat.mod_eq_of_lt (by omega)]
theorem dec_two (n : Int) (h0 : 10 ≤ n) (h1 : n < 100) : Lib.decDigits n.toNat = d2 n := by
  rw [Lib.decDigits_two (by omega) (by omega)]; unfold d2 dch
  rw [show (n / 10).toNat % 10 = n.toNat / 10 by omega]
theorem pad_two (n : Int) (h0 : 0 ≤ n) (h1 : n < 10) : [(48 : UInt8)] ++ Lib.decDigits n.toNat = d2 n := by
  rw [dec_one n h0 h1]; unfold d2
  have : dch (n / 10) = 48 := by rw [show n / 10 = 0 by omega]; rfl
  rw [this]; rfl
theorem dec_four (n : Int) (h0 : 1000 ≤ n) (h1 : n < 10000) : Lib.decDigits n.toNat = d4 n := by
  have hn : Lib.nDigits n.toNat = 4 := Lib.nDigits_unique 3 n.toNat (by omega) (by omega)
  rw [Lib.decDigits_eq, hn]
  simp only [List.range, List.range.loop, List.map, Lib.dg, d4, dch]
  simp only [Nat.sub_zero, Nat.reduceSub, Nat.reducePow, Nat.div_one]
  rw [show (n / 1000).toNat = n.toNat / 1000 by omega, show (n / 100).toNat = n.toNat / 100 by omega, show (n / 10).toNat = n.toNat / 10 by omega]
theorem date_eq (y m d : Int) : d4 y ++ [45] ++ d2 m ++ [45] ++ d2 d = date y m d := rfl

theorem form_iff (l : List UInt8) : form l = true ↔ l.length = 10 ∧ ∀ j, j < 10 → okAt j (l.getD j 0) = true := by
  unfold form; rw [Bool.and_eq_true, decide_eq_true_eq, List.all_eq_true]; simp only [List.mem_range]
theorem form_date (y m d : Int) : form (date y m d) = true := by
  rw [form_iff]
  refine ⟨rfl, fun j hj => ?_⟩
  have : j = 0 ∨ j = 1 ∨ j = 2 ∨ j = 3 ∨ j = 4 ∨ j = 5 ∨ j = 6 ∨ j = 7 ∨ j = 8 ∨ j = 9 := by omega
  rcases this with rfl | rfl | rfl | rfl | rfl | rfl | rfl | rfl | rfl | rfl <;> simp [date, okAt, dch_dig] <;> decide
theorem yOf_date (y m d : Int) (h0 : 0 ≤ y) (h1 : y < 10000) : yOf (date y m d) = y := by
  simp only [yOf, date, List.getD_cons_zero, List.getD_cons_succ]
  rw [dv_dch _ (by omega), dv_dch _ (by omega), dv_dch _ (by omega), dv_dch _ (by omega)]
  omega
theorem mOf_date (y m d : Int) (h0 : 0 ≤ m) (h1 : m < 100) : mOf (date y m d) = m := by
  simp only [mOf, date, List.getD_cons_zero, List.getD_cons_succ]
  rw [dv_dch _ (by omega), dv_dch _ (by omega)]
  omega
theorem dOf_date (y m d : Int) (h0 : 0 ≤ d) (h1 : d < 100) : dOf (date y m d) = d := by
  simp only [dOf, date, List.getD_cons_zero, List.getD_cons_succ]
  rw [dv_dch _ (by omega), dv_dch _ (by omega)]
  omega
theorem ten_of {l : List UInt8} (h : l.length = 10) : ∃ a b c d e f g i j k, l = [a, b, c, d, e, f, g, i, j, k] := by
  match l, h with
  | [a, b, c, d, e, f, g, i, j, k], _ => exact ⟨a, b, c, d, e, f, g, i, j, k, rfl⟩
theorem date_form {l : List UInt8} (h : form l = true) : date (yOf l) (mOf l) (dOf l) = l := by
  rw [form_iff] at h
  obtain ⟨hl, hj⟩ := h
  obtain ⟨a, b, c, d, e, f, g, i, j, k, rfl⟩ := ten_of hl
  have h0 := hj 0 (by omega); have h1 := hj 1 (by omega); have h2 := hj 2 (by omega); have h3 := hj 3 (by omega); have h4 := hj 4 (by omega)
  have h5 := hj 5 (by omega); have h6 := hj 6 (by omega); have h7 := hj 7 (by omega); have h8 := hj 8 (by omega); have h9 := hj 9 (by omega)
  simp only [okAt, List.getD_cons_zero, List.getD_cons_succ] at h0 h1 h2 h3 h4 h5 h6 h7 h8 h9
  simp at h0 h1 h2 h3 h4 h5 h6 h7 h8 h9
  have b0 := isDig_bd h0; have b1 := isDig_bd h1; have b2 := isDig_bd h2; have b3 := isDig_bd h3
  have b5 := isDig_bd h5; have b6 := isDig_bd h6; have b8 := isDig_bd h8; have b9 := isDig_bd h9
  have e4 : e = 45 := UInt8.toNat_inj.1 (by rw [h4]; rfl)
  have e7 : i = 45 := UInt8.toNat_inj.1 (by rw [h7]; rfl)
  simp only [date, yOf, mOf, dOf, List.getD_cons_zero, List.getD_cons_succ, e4, e7]
  rw [dch_dv a _ h0 0 (by omega) (by omega), dch_dv b _ h1 (dv a) (by omega) (by omega), dch_dv c _ h2 (10 * dv a + dv b) (by omega) (by omega), dch_dv d _ h3 (100 * dv a + 10 * dv b + dv c) (by omega) (by omega),
    dch_dv f _ h5 0 (by omega) (by omega), dch_dv g _ h6 (dv f) (by omega) (by omega), dch_dv j _ h8 0 (by omega) (by omega), dch_dv k _ h9 (dv j) (by omega) (by omega)]
theorem of_bd {l : List UInt8} (h : form l = true) : 0 ≤ yOf l ∧ yOf l < 10000 ∧ 0 ≤ mOf l ∧ mOf l < 100 ∧ 0 ≤ dOf l ∧ dOf l < 100 := by
  rw [form_iff] at h
  obtain ⟨hl, hj⟩ := h
  have h0 := hj 0 (by omega); have h1 := hj 1 (by omega); have h2 := hj 2 (by omega); have h3 := hj 3 (by omega)
  have h5 := hj 5 (by omega); have h6 := hj 6 (by omega); have h8 := hj 8 (by omega); have h9 := hj 9 (by omega)
  simp only [okAt] at h0 h1 h2 h3 h5 h6 h8 h9
  simp at h0 h1 h2 h3 h5 h6 h8 h9
  have b0 := isDig_bd h0; have b1 := isDig_bd h1; have b2 := isDig_bd h2; have b3 := isDig_bd h3
  have b5 := isDig_bd h5; have b6 := isDig_bd h6; have b8 := isDig_bd h8; have b9 := isDig_bd h9
  unfold yOf mOf dOf
  simp only [List.getD_eq_getElem?_getD] at *
  omega
theorem form_not_forever {l : List UInt8} (h : form l = true) : l ≠ foreverL := by
  rintro rfl; rw [form_iff] at h; exact absurd h.1 (by decide)
theorem fday_forever : fday 1000000 = foreverL := by unfold fday; rw [if_pos rfl]
theorem fday_day {n : Int} (h : isDayB n = true) : fday n = date (tdY n) (tdM n) (tdD n) := by
  unfold fday; rw [if_neg (by rw [isDay_iff] at h; omega), if_pos h]
theorem fday_no {n : Int} (h : n ≠ 1000000) (h2 : isDayB n = false) : fday n = [] := by unfold fday; rw [if_neg h, if_neg (by rw [h2]; decide)]
theorem pd_forever : pdE foreverL = 0 ∧ pdV foreverL = 1000000 := by unfold pdE pdV; simp
theorem pd_fday {n : Int} (h0 : 0 ≤ n) (h1 : n ≤ 1000000) : pdE (fday n) = 0 ∧ pdV (fday n) = n := by
  by_cases h : n = 1000000
  · subst h; rw [fday_forever]; exact pd_forever
  · have hd : isDayB n = true := (isDay_iff n).2 ⟨h0, by omega⟩
    rw [fday_day hd]
    obtain ⟨a1, a2, a3, a4, a5, a6, _⟩ := td_spec n hd
    have hb := dim_bd (tdY n) (tdM n)
    obtain ⟨f1, f2⟩ := fd_of_td hd
    have hf := form_date (tdY n) (tdM n) (tdD n)
    unfold pdE pdV
    rw [if_neg (form_not_forever hf), if_neg (form_not_forever hf), if_pos hf, if_pos hf, yOf_date _ _ _ (by omega) (by omega), mOf_date _ _ _ (by omega) (by omega), dOf_date _ _ _ (by omega) (by omega)]
    exact ⟨by rw [if_pos f1], f2⟩
theorem fday_pd {l : List UInt8} (h : pdE l = 0) : fday (pdV l) = l ∧ 0 ≤ pdV l ∧ pdV l ≤ 1000000 := by
  unfold pdE at h
  by_cases hf : l = foreverL
  · subst hf; rw [pd_forever.2]; exact ⟨fday_forever, by omega, by omega⟩
  · rw [if_neg hf] at h
    by_cases hm : form l = true
    · rw [if_pos hm] at h
      by_cases hd : fdB (yOf l) (mOf l) (dOf l) = true
      · have hv : pdV l = fdV (yOf l) (mOf l) (dOf l) := by unfold pdV; rw [if_neg hf, if_pos hm]
        obtain ⟨t1, t2, t3, t4⟩ := td_of_fd hd
        rw [hv, fday_day t1, t2, t3, t4]
        rw [isDay_iff] at t1
        exact ⟨date_form hm, by omega, by omega⟩
      · rw [if_neg hd] at h; omega
    · rw [if_neg hm] at h; omega
theorem pd_bd (l : List UInt8) : 0 ≤ pdV l ∧ pdV l ≤ 1000000 := by
  by_cases h : pdE l = 0
  · exact (fday_pd h).2
  · unfold pdV; split
    · omega
    · split
      · unfold fdV; split
        · rename_i h1 h2 h3
          obtain ⟨t1, _⟩ := td_of_fd h3
          rw [isDay_iff, fdV_yes h3] at t1; omega
        · omega
      · omega
theorem pdE_cases (l : List UInt8) : pdE l = 0 ∨ pdE l = 5 ∨ pdE l = 10 := by unfold pdE; split <;> (try split) <;> (try split) <;> simp
theorem pdV_err {l : List UInt8} (h : pdE l ≠ 0) : pdV l = 0 := by
  unfold pdE at h; unfold pdV
  split at h
  · omega
  · rename_i h1; rw [if_neg h1]
    split at h
    · rename_i h2; rw [if_pos h2]
      split at h
      · omega
      · rename_i h3; exact fdV_no (by simpa using h3)
    · rename_i h2; rw [if_neg h2]
theorem dch_ne (n : Int) (c : UInt8) (h : c.toNat < 48 ∨ 57 < c.toNat) : dch n ≠ c := by
  intro e; have := dch_toNat n; rw [e] at this; omega
theorem fday_chars {n : Int} (c : UInt8) (hc : c = 44 ∨ c = 41) : c ∉ fday n := by
  unfold fday
  split
  · rcases hc with rfl | rfl <;> decide
  · split
    · unfold date
      intro hm
      simp only [List.mem_cons, List.not_mem_nil, or_false] at hm
      have hk : c.toNat < 48 ∨ 57 < c.toNat := by rcases hc with rfl | rfl <;> decide
      have h45 : c ≠ 45 := by rcases hc with rfl | rfl <;> decide
      rcases hm with h | h | h | h | h | h | h | h | h | h <;> first | exact h45 h | exact dch_ne _ _ hk h.symm
    · simp
theorem fday_len (n : Int) : (fday n).length ≤ 10 := by unfold fday; split <;> (try split) <;> simp [foreverL, date]
theorem fper_ok {a b : Int} (h0 : 0 ≤ a) (h1 : a < b) (h2 : b ≤ 1000000) : fper a b = [91] ++ fday a ++ [44, 32] ++ fday b ++ [41] := by
  unfold fper; rw [if_pos ⟨h0, h1, h2⟩]
theorem fper_no {a b : Int} (h : ¬ (0 ≤ a ∧ a < b ∧ b ≤ 1000000)) : fper a b = [] := by unfold fper; rw [if_neg h]
theorem splits_fper {a b : Int} (h0 : 0 ≤ a) (h1 : a < b) (h2 : b ≤ 1000000) : Splits (fper a b) (fday a) (fday b) :=
  ⟨fper_ok h0 h1 h2, fday_chars _ (Or.inl rfl), fday_chars _ (Or.inr rfl)⟩
theorem pp_fday {a b : Int} (h0 : 0 ≤ a) (h1 : a < b) (h2 : b ≤ 1000000) : ppE (fday a) (fday b) = 0 ∧ ppA (fday a) (fday b) = a ∧ ppB (fday a) (fday b) = b := by
  obtain ⟨e1, v1⟩ := pd_fday h0 (by omega : a ≤ 1000000)
  obtain ⟨e2, v2⟩ := pd_fday (by omega : 0 ≤ b) h2
  have e : ppE (fday a) (fday b) = 0 := by unfold ppE; rw [e1, e2, v1, v2, if_neg (by omega), if_neg (by omega), if_neg (by omega)]
  unfold ppA ppB
  rw [if_pos e, if_pos e]
  exact ⟨e, v1, v2⟩
theorem pp_ok {f g : List UInt8} (h : ppE f g = 0) : pdE f = 0 ∧ pdE g = 0 ∧ pdV f < pdV g := by
  unfold ppE at h
  split at h
  · omega
  · split at h
    · omega
    · split at h <;> omega
theorem fper_pp {l f g : List UInt8} (hs : Splits l f g) (h : ppE f g = 0) : fper (ppA f g) (ppB f g) = l := by
  obtain ⟨e1, e2, e3⟩ := pp_ok h
  unfold ppA ppB
  rw [if_pos h, if_pos h]
  obtain ⟨a1, a2, a3⟩ := fday_pd e1
  obtain ⟨b1, b2, b3⟩ := fday_pd e2
  rw [fper_ok a2 e3 b3, a1, b1, hs.1]
theorem bracket_err {l : List UInt8} (h : l.getD 0 0 = 91) : pdE l = 5 := by
  unfold pdE
  have h1 : l ≠ foreverL := by rintro rfl; exact absurd h (by decide)
  have h2 : ¬ form l = true := by
    intro hf; rw [form_iff] at hf
    have := hf.2 0 (by omega)
    rw [h] at this
    exact absurd this (by decide)
  rw [if_neg h1, if_neg h2]
theorem splits_bracket {l f g : List UInt8} (hs : Splits l f g) : l.getD 0 0 = 91 := by rw [hs.1]; rfl
end Go.Proofs.YtpdafoinhpjklaaDoor.Cal
