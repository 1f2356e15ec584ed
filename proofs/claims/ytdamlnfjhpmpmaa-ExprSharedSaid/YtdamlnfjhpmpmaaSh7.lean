/- Shared operands in plain values: doubling, its type, its columns. -/
import Derived.Test.YtdamlnfjhpmpmaaEx2
import Derived.Test.YtdamlnfjhpmpmaaEv4
import Derived.Test.YtdamlnfjhpmpmaaEw4
import Derived.Test.YtdamlnfjhpmpmaaNum7
namespace Go.Proofs.Ytdamlnfjhpmpmaa
open Go.ChangeShapes Go.WideShapes Go.ChangeAt Go.RowKit

def dlX (i : Nat) : X := ⟨3, i, i, 0, nul⟩
def dl (k : Nat) : List X := ⟨2, 0, 0, 0, nul⟩ :: (List.range k).map dlX
theorem dl_len (k : Nat) : (dl k).length = k + 1 := by simp [dl]
theorem dl_succ (k : Nat) : dl (k + 1) = dl k ++ [dlX k] := by simp [dl, List.range_succ]
theorem dl_at (k i : Nat) (h : i < k) : (dl k).getD (i + 1) nulX = dlX i := by
  rw [getD_at _ _ _ (by rw [dl_len]; omega)]
  simp [dl]
theorem dl_zero (k : Nat) : (dl k).getD 0 nulX = ⟨2, 0, 0, 0, nul⟩ := rfl
theorem dl_get (k i : Nat) (h : i < k) (h' : i + 1 < (dl k).length) : (dl k)[i + 1] = dlX i := by rw [← dl_at k i h, getD_at _ _ _ h']
theorem dl_ok (k : Nat) : OkX (dl k) := by
  intro x hx
  simp only [dl, List.mem_cons, List.mem_map] at hx
  rcases hx with rfl | ⟨i, _, rfl⟩ <;> exact okN_nul
def dbl (x : Int) : Nat → V
  | 0 => ⟨1, x, []⟩
  | i + 1 => calV 3 (dbl x i) (dbl x i)
theorem dl_lgl (i : Nat) (n : Nat) (h : i < n) : lgl (dlX i) n = true := by
  have : isIx (i : Int) (n : Int) = true := (isIx_iff _ _).2 ⟨by omega, by omega⟩
  unfold lgl dlX; simp only; rw [this]; simp
theorem dbl_evs (x : Int) (k : Nat) : ∀ i, i ≤ k → (evs [⟨1, x, []⟩] (dl k)).getD i nul = dbl x i := by
  intro i
  induction i with
  | zero =>
    intro _
    rw [evs_get _ _ 0 (by rw [dl_len]; omega)]
    rfl
  | succ i ih =>
    intro h
    have hl : i + 1 < (dl k).length := by rw [dl_len]; omega
    rw [evs_get _ _ (i + 1) hl, dl_get k i (by omega) hl]
    have hlen : (evs [⟨1, x, []⟩] ((dl k).take (i + 1))).length = i + 1 := by rw [evs_len, List.length_take]; omega
    have hv : atV (evs [⟨1, x, []⟩] ((dl k).take (i + 1))) i = dbl x i := by
      unfold atV
      rw [show ((i : Int)).toNat = i from rfl, evs_take _ _ (i + 1) i (by omega) (by omega)]
      exact ih (by omega)
    unfold evO
    rw [hlen, if_neg (by rw [dl_lgl i (i + 1) (by omega)]; decide)]
    unfold dlX
    rw [if_neg (show ¬ (3 : Int) = 1 by decide), if_neg (show ¬ (3 : Int) = 2 by decide), if_pos (show 3 ≤ (3 : Int) ∧ (3 : Int) ≤ 5 by decide)]
    simp only
    rw [hv]; rfl
theorem dl_chs (k : Nat) : ∀ i, i ≤ k → (chs [1] (dl k)).getD i (0, 0) = (1, 0) := by
  intro i
  induction i with
  | zero =>
    intro _
    rw [chs_get _ _ 0 (by rw [dl_len]; omega)]
    rfl
  | succ i ih =>
    intro h
    have hl : i + 1 < (dl k).length := by rw [dl_len]; omega
    rw [chs_get _ _ (i + 1) hl, dl_get k i (by omega) hl]
    have hlen : (chs [1] ((dl k).take (i + 1))).length = i + 1 := by rw [chs_len, List.length_take]; omega
    have hv : atK (chs [1] ((dl k).take (i + 1))) i = (1, 0) := by
      unfold atK
      rw [show ((i : Int)).toNat = i from rfl, chs_take _ _ (i + 1) i (by omega) (by omega)]
      exact ih (by omega)
    unfold chO
    rw [hlen, if_neg (show ¬ (ari (dlX i).op = -1 ∨ ((dlX i).op = 1 ∧ vldB (dlX i).c = false)) by unfold dlX; simp only; decide), if_neg (by rw [dl_lgl i (i + 1) (by omega)]; unfold dlX; simp)]
    rw [show (dlX i).op = 3 from rfl, show (dlX i).a = (i : Int) from rfl, show (dlX i).b = (i : Int) from rfl, if_neg (show ¬ ari 3 = 1 by decide), if_pos (show ari 3 = 2 by decide), hv]
    rfl
theorem dl_reach (k : Nat) : ∀ j, j ≤ k → (rea (dl k) k).getD (k - j) false = true := by
  intro j
  induction j with
  | zero => intro _; exact rea_root _ _
  | succ j ih =>
    intro h
    obtain ⟨m, hm⟩ : ∃ m, k - j = m + 1 := ⟨k - j - 1, by omega⟩
    have h0 := ih (by omega)
    rw [hm] at h0
    have hc := (rea_closed (dl k) k (m + 1) (by omega) h0).1
    rw [dl_at k m (by omega)] at hc
    have hl : lgA (dlX m) ((m + 1 : Nat) : Int) = true := by
      show (decide (1 ≤ ari 3) && isIx (m : Int) ((m + 1 : Nat) : Int)) = true
      rw [(isIx_iff _ _).2 ⟨by omega, by omega⟩]; decide
    have := hc hl
    rw [show k - (j + 1) = m by omega]
    exact this
theorem dl_uses (k : Nat) (c : Int) : Uses (dl k) k c ↔ c = 0 := by
  constructor
  · rintro ⟨i, h0, _, h2, h3⟩
    cases i with
    | zero => exact h3.symm
    | succ i => rw [dl_at k i (by omega)] at h2; exact absurd (show (3 : Int) = 2 from h2) (by decide)
  · rintro rfl
    exact ⟨0, by omega, by have := dl_reach k k (Nat.le_refl _); rw [Nat.sub_self] at this; exact this, rfl, rfl⟩
theorem dbl_cases (x : Int) (hx : okN x) : ∀ i, (∃ n, dbl x i = ⟨1, n, []⟩ ∧ okN n) ∨ dbl x i = ⟨0, 0, []⟩ := by
  intro i
  induction i with
  | zero => exact .inl ⟨x, rfl, hx⟩
  | succ i ih =>
    rcases ih with ⟨n, e, h⟩ | e
    · show (∃ m, calV 3 (dbl x i) (dbl x i) = ⟨1, m, []⟩ ∧ okN m) ∨ calV 3 (dbl x i) (dbl x i) = ⟨0, 0, []⟩
      rw [e]
      have hc : calV 3 ⟨1, n, []⟩ ⟨1, n, []⟩ = numV (n + n) := by unfold calV; rw [if_pos ⟨rfl, rfl⟩]; rfl
      rw [hc]
      unfold numV
      cases hf : fitB (n + n) with
      | true => rw [if_pos rfl]; exact .inl ⟨_, rfl, (fitB_iff _).1 hf⟩
      | false => rw [if_neg (by decide)]; exact .inr rfl
    · right
      show calV 3 (dbl x i) (dbl x i) = ⟨0, 0, []⟩
      rw [e]; rfl
theorem dbl_fit (x : Int) (i : Nat) (n : Int) (e : dbl x i = ⟨1, n, []⟩) (h1 : n ≤ 4611686018427387903) (h2 : -4611686018427387904 ≤ n) : dbl x (i + 1) = ⟨1, 2 * n, []⟩ := by
  show calV 3 (dbl x i) (dbl x i) = _
  rw [e]
  unfold calV
  rw [if_pos ⟨rfl, rfl⟩]
  show numV (n + n) = _
  unfold numV
  rw [if_pos ((fitB_iff _).2 ⟨by omega, by omega⟩), show n + n = 2 * n by omega]
theorem dbl_over (x : Int) (i : Nat) (n : Int) (e : dbl x i = ⟨1, n, []⟩) (h : 4611686018427387903 < n ∨ n < -4611686018427387904) : dbl x (i + 1) = ⟨0, 0, []⟩ := by
  show calV 3 (dbl x i) (dbl x i) = _
  rw [e]
  unfold calV
  rw [if_pos ⟨rfl, rfl⟩]
  show numV (n + n) = _
  unfold numV
  rw [if_neg (by rw [fitB_iff]; omega)]; rfl
theorem dbl_stays (x : Int) (i : Nat) (e : dbl x i = ⟨0, 0, []⟩) : ∀ j, i ≤ j → dbl x j = ⟨0, 0, []⟩ := by
  intro j hj
  obtain ⟨d, rfl⟩ : ∃ d, j = i + d := ⟨j - i, by omega⟩
  induction d with
  | zero => exact e
  | succ d ih =>
    show calV 3 (dbl x (i + d)) (dbl x (i + d)) = _
    rw [ih (by omega)]; rfl
theorem dl_chk (k : Nat) (h : k < 199) : chkV (dl k) k [1] = (1, 0) := by
  unfold chkV
  rw [if_neg (by rw [dl_len]; omega), if_neg (by rw [(isIx_iff _ _).2 ⟨by omega, by rw [dl_len]; omega⟩]; decide)]
  exact dl_chs k k (Nat.le_refl _)
theorem dl_evl (x : Int) (k : Nat) : evlV (dl k) k [⟨1, x, []⟩] = dbl x k := by
  unfold evlV
  rw [if_neg (by rw [(isIx_iff _ _).2 ⟨by omega, by rw [dl_len]; omega⟩]; decide)]
  exact dbl_evs x k k (Nat.le_refl _)
theorem dl_cols (k : Nat) (cs : List Int) (ha : Asc cs) (h : ∀ c, c ∈ cs ↔ isIx (k : Int) (dl k).length = true ∧ Uses (dl k) (k : Int).toNat c) : cs = [0] := by
  refine asc_unique cs [0] ha (by simp [Asc]) fun c => ?_
  rw [h c, (isIx_iff _ _).2 ⟨by omega, by rw [dl_len]; omega⟩, show ((k : Int)).toNat = k from rfl, dl_uses]
  simp
end Go.Proofs.Ytdamlnfjhpmpmaa
