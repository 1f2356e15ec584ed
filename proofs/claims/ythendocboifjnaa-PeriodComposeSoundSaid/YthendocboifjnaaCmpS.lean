/- Compose, in plain lists: it is sound, and it turns round with the converses. -/
import Derived.Test.YthendocboifjnaaCmp
namespace Go.Proofs.Ythendocboifjnaa

/-- how many of the numbers are smaller -/
def rk (l : List Int) (x : Int) : Nat := l.countP fun y => decide (y < x)
theorem rk_cons (z : Int) (l : List Int) (x : Int) : rk (z :: l) x = rk l x + if z < x then 1 else 0 := by
  unfold rk
  rw [List.countP_cons]
  by_cases h : z < x <;> simp [h]
theorem rk_le (l : List Int) {x y : Int} (h : x ≤ y) : rk l x ≤ rk l y := by
  induction l with
  | nil => exact Nat.le_refl _
  | cons z l ih => rw [rk_cons, rk_cons]; split <;> split <;> omega
theorem rk_lt {l : List Int} {x y : Int} (h : x < y) (hx : x ∈ l) : rk l x < rk l y := by
  induction l with
  | nil => cases hx
  | cons z l ih =>
    rw [rk_cons, rk_cons]
    rcases List.mem_cons.1 hx with e | e
    · have := rk_le l (Int.le_of_lt h)
      rw [if_neg (by omega), if_pos (by omega)]; omega
    · have := ih e
      split <;> split <;> omega
theorem rk_bd {l : List Int} {x : Int} (hx : x ∈ l) : rk l x < l.length := by
  have h : ∀ (m : List Int), rk m x ≤ m.length := fun m => List.countP_le_length
  induction l with
  | nil => cases hx
  | cons z l ih =>
    rw [rk_cons, List.length_cons]
    rcases List.mem_cons.1 hx with e | e
    · have := h l
      rw [if_neg (by omega)]; omega
    · have := ih e
      split <;> omega
theorem rk_iff {l : List Int} {x y : Int} (hx : x ∈ l) (hy : y ∈ l) : ((rk l x : Int) < rk l y ↔ x < y) ∧ ((rk l x : Int) = rk l y ↔ x = y) := by
  rcases Int.lt_trichotomy x y with h | h | h
  · have := rk_lt h hx; omega
  · subst h; omega
  · have := rk_lt h hy; omega
theorem relF_rk {l : List Int} {a b c d : Int} (ha : a ∈ l) (hb : b ∈ l) (hc : c ∈ l) (hd : d ∈ l) : relF (rk l a) (rk l b) (rk l c) (rk l d) = relF a b c d := by
  unfold relF
  simp only [(rk_iff hb hc).1, (rk_iff hb hc).2, (rk_iff hd ha).1, (rk_iff hd ha).2, (rk_iff ha hc).1, (rk_iff ha hc).2, (rk_iff hb hd).1, (rk_iff hb hd).2, (rk_iff hd hb).1, (rk_iff hc ha).1]
theorem ps_find : ∀ x, x < 6 → ∀ y, y < 6 → x < y → off x + (y - x - 1) < 15 ∧ psF (off x + (y - x - 1)) = (x : Int) ∧ psT (off x + (y - x - 1)) = (y : Int) := by decide
theorem ps_rk {l : List Int} {a b : Int} (hl : l.length = 6) (ha : a ∈ l) (hb : b ∈ l) (h : a < b) : ∃ k, k < 15 ∧ psF k = rk l a ∧ psT k = rk l b := by
  have h1 := rk_bd ha
  have h2 := rk_bd hb
  rw [hl] at h1 h2
  exact ⟨_, ps_find _ h1 _ h2 (rk_lt h ha)⟩
theorem mem_comp {r s : Int} {i : Nat} (hi : i < 14) (h : posB r s i = true) : (i : Int) ∈ compL r s := by
  unfold compL compT
  exact List.mem_map.2 ⟨i, List.mem_filter.2 ⟨List.mem_range.2 hi, h⟩, rfl⟩
theorem comp_sound {a b c d e f : Int} (h1 : a < b) (h2 : c < d) (h3 : e < f) : relF a b e f ∈ compL (relF a b c d) (relF c d e f) := by
  obtain ⟨i, hi, pi1, pi2⟩ := ps_rk (l := [a, b, c, d, e, f]) rfl (by simp) (by simp) h1
  obtain ⟨j, hj, pj1, pj2⟩ := ps_rk (l := [a, b, c, d, e, f]) rfl (by simp) (by simp) h2
  obtain ⟨k, hk, pk1, pk2⟩ := ps_rk (l := [a, b, c, d, e, f]) rfl (by simp) (by simp) h3
  have r1 : relI i j = relF a b c d := by unfold relI; rw [pi1, pi2, pj1, pj2]; exact relF_rk (by simp) (by simp) (by simp) (by simp)
  have r2 : relI j k = relF c d e f := by unfold relI; rw [pj1, pj2, pk1, pk2]; exact relF_rk (by simp) (by simp) (by simp) (by simp)
  have r3 : relI i k = relF a b e f := by unfold relI; rw [pi1, pi2, pk1, pk2]; exact relF_rk (by simp) (by simp) (by simp) (by simp)
  have hb := relF_bd a b e f h1 h3
  have e1 : relF a b e f = ((relF a b e f).toNat : Int) := by omega
  rw [e1]
  exact mem_comp (by omega) ((pos_iff _ _ _).2 ⟨i, hi, j, hj, k, hk, r1, r2, by rw [r3]; exact e1⟩)

/-- a period with a given relation to [10, 20) -/
def wit (x : Nat) : Int × Int := [(0, 1), (0, 5), (0, 10), (0, 15), (0, 20), (0, 30), (10, 15), (10, 20), (10, 30), (12, 15), (15, 20), (15, 30), (20, 30), (25, 30)].getD x (0, 1)
theorem wit_ok : ∀ x, x < 14 → 1 ≤ x → (wit x).1 < (wit x).2 ∧ relF (wit x).1 (wit x).2 10 20 = (x : Int) := by decide
theorem comp_some {x y : Nat} (hx : 1 ≤ x) (hx2 : x < 14) (hy : 1 ≤ y) (hy2 : y < 14) : compL x y ≠ [] := by
  obtain ⟨a1, a2⟩ := wit_ok x hx2 hx
  obtain ⟨b1, b2⟩ := wit_ok (14 - y) (by omega) (by omega)
  have b3 := relF_inv (wit (14 - y)).1 (wit (14 - y)).2 10 20 b1 (by omega)
  have := comp_sound a1 (show (10 : Int) < 20 by omega) b1
  rw [a2, b3, b2, show (14 : Int) - ((14 - y : Nat) : Int) = y by omega] at this
  intro e
  rw [e] at this
  cases this

theorem relI_inv {i j : Nat} (hi : i < 15) (hj : j < 15) : relI j i = 14 - relI i j := relF_inv _ _ _ _ (ps_lt i hi) (ps_lt j hj)
theorem pos_conv (r s : Int) (i : Nat) (h : i ≤ 14) : posB (14 - s) (14 - r) i = posB r s (14 - i) := by
  have key : ∀ (r s : Int) (i : Nat), i ≤ 14 → posB r s (14 - i) = true → posB (14 - s) (14 - r) i = true := by
    intro r s i h e
    obtain ⟨a, ha, b, hb, c, hc, e1, e2, e3⟩ := (pos_iff _ _ _).1 e
    refine (pos_iff _ _ _).2 ⟨c, hc, b, hb, a, ha, ?_, ?_, ?_⟩
    · rw [relI_inv hb hc, e2]
    · rw [relI_inv ha hb, e1]
    · rw [relI_inv ha hc, e3]; omega
  rw [Bool.eq_iff_iff]
  refine ⟨fun e => ?_, key r s i h⟩
  have := key (14 - s) (14 - r) (14 - i) (by omega) (by rw [show 14 - (14 - i) = i by omega]; exact e)
  rwa [show (14 : Int) - (14 - r) = r by omega, show (14 : Int) - (14 - s) = s by omega] at this
/-- the possible relations without the number 0 -/
def nzL (r s : Int) : List Nat := [1, 2, 3, 4, 5, 6, 7, 8, 9, 10, 11, 12, 13].filter (posB r s)
theorem comp_nz (r s : Int) : compL r s = (nzL r s).map fun n : Nat => (n : Int) := by
  unfold compL compT nzL
  rw [show List.range 14 = 0 :: [1, 2, 3, 4, 5, 6, 7, 8, 9, 10, 11, 12, 13] from rfl, List.filter_cons_of_neg (by simp [pos_zero])]
theorem nz_conv (r s : Int) : (nzL (14 - s) (14 - r)).map (fun n => 14 - n) = (nzL r s).reverse := by
  unfold nzL
  rw [← List.filter_reverse, show ([1, 2, 3, 4, 5, 6, 7, 8, 9, 10, 11, 12, 13] : List Nat).reverse = [1, 2, 3, 4, 5, 6, 7, 8, 9, 10, 11, 12, 13].map (fun n => 14 - n) from rfl, List.filter_map]
  congr 1
  refine List.filter_congr fun i hi => ?_
  have : i ≤ 14 := by simp at hi; omega
  exact pos_conv r s i this
theorem comp_conv (r s : Int) (n : Nat) (hn : (compL r s).length = n) : (compL (14 - s) (14 - r)).length = n ∧
    ∀ k, k < n → ∃ v : Int, 1 ≤ v ∧ v ≤ 13 ∧ (compL r s)[k]? = some v ∧ (compL (14 - s) (14 - r))[n - 1 - k]? = some (14 - v) := by
  have e := nz_conv r s
  rw [comp_nz] at hn ⊢
  rw [comp_nz]
  rw [List.length_map] at hn
  have hl : (nzL (14 - s) (14 - r)).length = n := by
    have := congrArg List.length e
    rw [List.length_map, List.length_reverse, hn] at this
    exact this
  refine ⟨by rw [List.length_map]; exact hl, fun k hk => ?_⟩
  have hk' : k < (nzL r s).length := by omega
  have hj' : n - 1 - k < (nzL (14 - s) (14 - r)).length := by omega
  have hin : (nzL r s)[k] ∈ ([1, 2, 3, 4, 5, 6, 7, 8, 9, 10, 11, 12, 13] : List Nat) := (List.mem_filter.1 (List.getElem_mem hk')).1
  have hin2 : (nzL (14 - s) (14 - r))[n - 1 - k] ∈ ([1, 2, 3, 4, 5, 6, 7, 8, 9, 10, 11, 12, 13] : List Nat) := (List.mem_filter.1 (List.getElem_mem hj')).1
  have q := congrArg (fun l => l[n - 1 - k]?) e
  simp only [List.getElem?_map, List.getElem?_eq_getElem hj', Option.map_some] at q
  rw [List.getElem?_reverse (by omega), show (nzL r s).length - 1 - (n - 1 - k) = k by omega, List.getElem?_eq_getElem hk'] at q
  have q' := Option.some.inj q
  refine ⟨((nzL r s)[k] : Nat), by simp at hin; omega, by simp at hin; omega, by rw [List.getElem?_map, List.getElem?_eq_getElem hk']; rfl, ?_⟩
  rw [List.getElem?_map, List.getElem?_eq_getElem hj', Option.map_some]
  congr 1
  simp at hin2
  omega
end Go.Proofs.Ythendocboifjnaa
