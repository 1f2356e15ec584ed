/- Values in plain lists: validity, order, texts. -/
import Derived.Lib.ItoaNum
import Derived.Lib.Bytealg
import Derived.Lib.Small
import GoSem.Op.String
namespace Go.Proofs.YtbplapkcleipiaaGreatDoor

structure V where
  k : Int
  n : Int
  s : List UInt8
deriving DecidableEq
def nul : V := ⟨0, 0, []⟩

def vldB (v : V) : Bool := decide ((v.k = 0 ∧ v.n = 0 ∧ v.s = []) ∨ (v.k = 1 ∧ v.s = []) ∨ (v.k = 2 ∧ v.n = 0 ∧ v.s.length ≤ 200) ∨ (v.k = 3 ∧ (v.n = 0 ∨ v.n = 1) ∧ v.s = []))
def cmpV (a b : V) : Int := if a.k = b.k then (if a.n = b.n then Lib.compareBytes a.s b.s else Lib.compareInt a.n b.n) else Lib.compareInt a.k b.k
def cmpR : List V → List V → Int
  | [], [] => 0
  | [], _ :: _ => -1
  | _ :: _, [] => 1
  | a :: x, b :: y => if cmpV a b = 0 then cmpR x y else cmpV a b

theorem ci_vals (a b : Int) : (Lib.compareInt a b = -1 ∧ a < b) ∨ (Lib.compareInt a b = 0 ∧ a = b) ∨ (Lib.compareInt a b = 1 ∧ b < a) := by
  unfold Lib.compareInt
  split
  · left; exact ⟨rfl, by assumption⟩
  · split
    · right; right; exact ⟨rfl, by assumption⟩
    · right; left; exact ⟨rfl, by omega⟩
theorem cb_vals : ∀ a b : List UInt8, Lib.compareBytes a b = -1 ∨ Lib.compareBytes a b = 0 ∨ Lib.compareBytes a b = 1
  | [], [] => by simp [Lib.compareBytes]
  | [], _ :: _ => by simp [Lib.compareBytes]
  | _ :: _, [] => by simp [Lib.compareBytes]
  | x :: a, y :: b => by
    have := cb_vals a b
    unfold Lib.compareBytes
    split
    · simp
    · split
      · simp
      · exact this
theorem u8_tri (x y : UInt8) : (x < y ∧ ¬ y < x ∧ x ≠ y) ∨ (y < x ∧ ¬ x < y ∧ x ≠ y) ∨ (x = y ∧ ¬ x < y ∧ ¬ y < x) := by
  have h1 : x < y ↔ x.toNat < y.toNat := UInt8.lt_iff_toNat_lt
  have h2 : y < x ↔ y.toNat < x.toNat := UInt8.lt_iff_toNat_lt
  have h3 : x = y ↔ x.toNat = y.toNat := UInt8.toNat_inj.symm
  rw [Ne, h1, h2, h3]
  omega
theorem cb_zero : ∀ a b : List UInt8, Lib.compareBytes a b = 0 ↔ a = b
  | [], [] => by simp [Lib.compareBytes]
  | [], _ :: _ => by simp [Lib.compareBytes]
  | _ :: _, [] => by simp [Lib.compareBytes]
  | x :: a, y :: b => by
    have := cb_zero a b
    unfold Lib.compareBytes
    rcases u8_tri x y with ⟨h1, h2, h3⟩ | ⟨h1, h2, h3⟩ | ⟨h1, h2, h3⟩
    · simp [h1, h3]
    · simp [h1, h2, h3]
    · simp [h1, this]
theorem cb_swap : ∀ a b : List UInt8, Lib.compareBytes b a = - Lib.compareBytes a b
  | [], [] => by simp [Lib.compareBytes]
  | [], _ :: _ => by simp [Lib.compareBytes]
  | _ :: _, [] => by simp [Lib.compareBytes]
  | x :: a, y :: b => by
    have := cb_swap a b
    unfold Lib.compareBytes
    rcases u8_tri x y with ⟨h1, h2, h3⟩ | ⟨h1, h2, h3⟩ | ⟨h1, h2, h3⟩
    · simp [h1, h2]
    · simp [h1, h2]
    · simp [h2, h3, this]
theorem cb_less : ∀ a b : List UInt8, Op.bytesLess a b = decide (Lib.compareBytes a b = -1)
  | [], [] => by simp [Lib.compareBytes, Op.bytesLess]
  | [], _ :: _ => by simp [Lib.compareBytes, Op.bytesLess]
  | _ :: _, [] => by simp [Lib.compareBytes, Op.bytesLess]
  | x :: a, y :: b => by
    have := cb_less a b
    unfold Lib.compareBytes Op.bytesLess
    rcases u8_tri x y with ⟨h1, h2, h3⟩ | ⟨h1, h2, h3⟩ | ⟨h1, h2, h3⟩
    · simp [h1]
    · simp [h1, h2, h3]
    · simp [h1, this]
theorem cb_trans : ∀ a b c : List UInt8, Lib.compareBytes a b = -1 → Lib.compareBytes b c = -1 → Lib.compareBytes a c = -1
  | _, [], [] => by simp [Lib.compareBytes]
  | [], [], _ :: _ => by simp [Lib.compareBytes]
  | _ :: _, [], _ :: _ => by simp [Lib.compareBytes]
  | [], _ :: _, [] => by simp [Lib.compareBytes]
  | [], _ :: _, _ :: _ => by simp [Lib.compareBytes]
  | _ :: _, _ :: _, [] => by simp [Lib.compareBytes]
  | x :: a, y :: b, z :: c => by
    have ih := cb_trans a b c
    have t : x < y → y < z → x < z := by
      rw [UInt8.lt_iff_toNat_lt, UInt8.lt_iff_toNat_lt, UInt8.lt_iff_toNat_lt]; omega
    unfold Lib.compareBytes
    intro h k
    rcases u8_tri x y with ⟨h1, h2, h3⟩ | ⟨h1, h2, h3⟩ | ⟨h1, h2, h3⟩
    · rcases u8_tri y z with ⟨k1, k2, k3⟩ | ⟨k1, k2, k3⟩ | ⟨k1, k2, k3⟩
      · rw [if_pos (t h1 k1)]
      · rw [if_neg k2, if_pos k1] at k; simp at k
      · subst k1; rw [if_pos h1]
    · rw [if_neg h2, if_pos h1] at h; simp at h
    · subst h1
      rw [if_neg h2, if_neg h2] at h
      rcases u8_tri x z with ⟨k1, k2, k3⟩ | ⟨k1, k2, k3⟩ | ⟨k1, k2, k3⟩
      · rw [if_pos k1]
      · rw [if_neg k2, if_pos k1] at k; simp at k
      · rw [if_neg k2, if_neg k3] at k ⊢; exact ih h k
theorem cv_less (a b : V) : cmpV a b = -1 ↔ a.k < b.k ∨ (a.k = b.k ∧ (a.n < b.n ∨ (a.n = b.n ∧ Lib.compareBytes a.s b.s = -1))) := by
  unfold cmpV
  have h1 := ci_vals a.k b.k
  have h2 := ci_vals a.n b.n
  split
  · split
    · omega
    · omega
  · omega
theorem cv_vals (a b : V) : cmpV a b = -1 ∨ cmpV a b = 0 ∨ cmpV a b = 1 := by
  unfold cmpV
  have h1 := ci_vals a.k b.k
  have h2 := ci_vals a.n b.n
  have h3 := cb_vals a.s b.s
  split
  · split
    · exact h3
    · omega
  · omega
theorem cv_zero (a b : V) : cmpV a b = 0 ↔ a = b := by
  unfold cmpV
  have h1 := ci_vals a.k b.k
  have h2 := ci_vals a.n b.n
  have h3 := cb_zero a.s b.s
  obtain ⟨ak, an, «as»⟩ := a
  obtain ⟨bk, bn, bs⟩ := b
  simp only [V.mk.injEq] at *
  split
  · split
    · simp_all
    · simp_all; omega
  · simp_all; omega
theorem cv_swap (a b : V) : cmpV b a = - cmpV a b := by
  unfold cmpV
  have h1 := ci_vals a.k b.k
  have h2 := ci_vals a.n b.n
  have h1' := ci_vals b.k a.k
  have h2' := ci_vals b.n a.n
  have h3 := cb_swap a.s b.s
  by_cases hk : a.k = b.k
  · rw [if_pos hk, if_pos hk.symm]
    by_cases hn : a.n = b.n
    · rw [if_pos hn, if_pos hn.symm, h3]
    · rw [if_neg hn, if_neg (Ne.symm hn)]; omega
  · rw [if_neg hk, if_neg (Ne.symm hk)]; omega
theorem cv_trans (a b c : V) (h : cmpV a b = -1) (k : cmpV b c = -1) : cmpV a c = -1 := by
  rw [cv_less] at *
  rcases h with h | ⟨h1, h | ⟨h2, h⟩⟩ <;> rcases k with k | ⟨k1, k | ⟨k2, k⟩⟩ <;> first
    | exact Or.inr ⟨by omega, Or.inr ⟨by omega, cb_trans _ _ _ h k⟩⟩
    | exact Or.inl (by omega)
    | exact Or.inr ⟨by omega, Or.inl (by omega)⟩
/-- what the law of the order asks -/
theorem cv_order (a b c : V) : (0 < cmpV a b ∨ 0 < cmpV b c ∨ cmpV a c ≤ 0) ∧ (cmpV a b ≠ -1 ∨ 0 < cmpV b c ∨ cmpV a c = -1) := by
  rcases cv_vals a b with x | x | x <;> rcases cv_vals b c with y | y | y
  all_goals first
    | exact ⟨Or.inl (by omega), Or.inl (by omega)⟩
    | exact ⟨Or.inr (Or.inl (by omega)), Or.inr (Or.inl (by omega))⟩
    | skip
  · have := cv_trans a b c x y; exact ⟨Or.inr (Or.inr (by omega)), Or.inr (Or.inr this)⟩
  · have e := (cv_zero b c).1 y; subst e; exact ⟨Or.inr (Or.inr (by omega)), Or.inr (Or.inr x)⟩
  · have e := (cv_zero a b).1 x; subst e; exact ⟨Or.inr (Or.inr (by omega)), Or.inl (by omega)⟩
  · have e := (cv_zero a b).1 x; subst e; exact ⟨Or.inr (Or.inr (by omega)), Or.inl (by omega)⟩
theorem cr_vals : ∀ a b : List V, cmpR a b = -1 ∨ cmpR a b = 0 ∨ cmpR a b = 1
  | [], [] => by simp [cmpR]
  | [], _ :: _ => by simp [cmpR]
  | _ :: _, [] => by simp [cmpR]
  | x :: a, y :: b => by
    have := cr_vals a b
    have h := cv_vals x y
    unfold cmpR
    split
    · exact this
    · exact h
theorem cr_zero : ∀ a b : List V, cmpR a b = 0 ↔ a = b
  | [], [] => by simp [cmpR]
  | [], _ :: _ => by simp [cmpR]
  | _ :: _, [] => by simp [cmpR]
  | x :: a, y :: b => by
    have := cr_zero a b
    have h := cv_zero x y
    unfold cmpR
    by_cases e : cmpV x y = 0
    · rw [if_pos e, this, h.1 e]; simp
    · rw [if_neg e]; simp; exact ⟨fun z => absurd z e, fun z => absurd (h.2 z.1) e⟩
theorem cr_swap : ∀ a b : List V, cmpR b a = - cmpR a b
  | [], [] => by simp [cmpR]
  | [], _ :: _ => by simp [cmpR]
  | _ :: _, [] => by simp [cmpR]
  | x :: a, y :: b => by
    have := cr_swap a b
    have h := cv_swap x y
    unfold cmpR
    by_cases e : cmpV x y = 0
    · rw [if_pos e, if_pos (by omega), this]
    · rw [if_neg e, if_neg (by omega), h]
/-- equal so far, at every place -/
theorem cr_eq_take (a b : List V) (k : Nat) (ha : k < a.length) (hb : k < b.length) (h : a.take k = b.take k) : cmpR a b = if cmpV a[k] b[k] = 0 then cmpR (a.drop (k + 1)) (b.drop (k + 1)) else cmpV a[k] b[k] := by
  induction k generalizing a b with
  | zero =>
    obtain ⟨x, a, rfl⟩ := List.exists_cons_of_length_pos ha
    obtain ⟨y, b, rfl⟩ := List.exists_cons_of_length_pos hb
    simp [cmpR]
  | succ k ih =>
    obtain ⟨x, a, rfl⟩ := List.exists_cons_of_length_pos (show 0 < a.length by omega)
    obtain ⟨y, b, rfl⟩ := List.exists_cons_of_length_pos (show 0 < b.length by omega)
    simp only [List.take_succ_cons, List.cons.injEq] at h
    obtain ⟨rfl, h⟩ := h
    have := ih a b (by simpa using ha) (by simpa using hb) h
    simp only [List.getElem_cons_succ, List.drop_succ_cons]
    rw [← this, cmpR, if_pos ((cv_zero x x).2 rfl)]
theorem cr_end (a b : List V) (k : Nat) (ha : k ≤ a.length) (hb : k ≤ b.length) (h : a.take k = b.take k) (he : k = a.length ∨ k = b.length) : cmpR a b = if a.length < b.length then -1 else if b.length < a.length then 1 else 0 := by
  induction k generalizing a b with
  | zero =>
    cases a <;> cases b <;> simp [cmpR] at *
  | succ k ih =>
    obtain ⟨x, a, rfl⟩ := List.exists_cons_of_length_pos (show 0 < a.length by omega)
    obtain ⟨y, b, rfl⟩ := List.exists_cons_of_length_pos (show 0 < b.length by omega)
    simp only [List.take_succ_cons, List.cons.injEq] at h
    obtain ⟨rfl, h⟩ := h
    have := ih a b (by simpa using ha) (by simpa using hb) h (by simpa using he)
    rw [cmpR, if_pos ((cv_zero x x).2 rfl), this]
    simp
end Go.Proofs.YtbplapkcleipiaaGreatDoor
/- Expressions in plain lists: operators, legal operands, types, values, what is reached. -/
namespace Go.Proofs.YtbplapkcleipiaaGreatDoor

structure X where
  op : Int
  a : Int
  b : Int
  col : Int
  c : V
def nulX : X := ⟨0, 0, 0, 0, nul⟩
instance : Inhabited X := ⟨nulX⟩
/-- how many operands an operator has; -1: there is no such operator -/
def ari (op : Int) : Int := if op = 1 ∨ op = 2 then 0 else if op = 10 ∨ op = 11 then 1 else if 3 ≤ op ∧ op ≤ 9 then 2 else -1
def isIx (i n : Int) : Bool := decide (0 ≤ i ∧ i < n)
def lgA (x : X) (i : Int) : Bool := decide (1 ≤ ari x.op) && isIx x.a i
def lgB (x : X) (i : Int) : Bool := decide (ari x.op = 2) && isIx x.b i
/-- all operands legal -/
def lgl (x : X) (i : Int) : Bool := (decide (ari x.op < 1) || isIx x.a i) && (decide (ari x.op < 2) || isIx x.b i)
theorem ops (op : Int) : (op = 1 ∨ op = 2 ∨ op = 3 ∨ op = 4 ∨ op = 5 ∨ op = 6 ∨ op = 7 ∨ op = 8 ∨ op = 9 ∨ op = 10 ∨ op = 11) ∨ (op < 1 ∨ 11 < op) := by omega
theorem ari_vals (op : Int) : ari op = -1 ∨ ari op = 0 ∨ ari op = 1 ∨ ari op = 2 := by unfold ari; split <;> (try split) <;> (try split) <;> simp
theorem isIx_iff (i n : Int) : isIx i n = true ↔ 0 ≤ i ∧ i < n := by simp [isIx]
theorem isIx_no (i n : Int) : isIx i n = false ↔ i < 0 ∨ n ≤ i := by simp [isIx]; omega

/- values -/
def truB (v : V) : Bool := decide (v.k = 3 ∧ v.n = 1)
def booV (b : Bool) : V := ⟨3, if b then 1 else 0, []⟩
def fitB (z : Int) : Bool := decide (-9223372036854775808 ≤ z ∧ z ≤ 9223372036854775807)
def numV (z : Int) : V := if fitB z = true then ⟨1, z, []⟩ else nul
def resV (op a b : Int) : Int := if op = 3 then a + b else if op = 4 then a - b else a * b
def calV (op : Int) (a b : V) : V := if a.k = 1 ∧ b.k = 1 then numV (resV op a.n b.n) else nul
def eqB (a b : V) : Bool := decide (a.k ≠ 0 ∧ cmpV a b = 0)
def leB (a b : V) : Bool := decide (a.k = b.k ∧ a.k ≠ 0 ∧ cmpV a b < 0)
def decB (op : Int) (a b : V) : Bool := if op = 6 then eqB a b else if op = 7 then leB a b else if op = 8 then truB a && truB b else truB a || truB b
def atV (l : List V) (i : Int) : V := l.getD i.toNat nul
/-- the value of one expression, given the values of those before it -/
def evO (x : X) (pre row : List V) : V :=
  if lgl x pre.length = false then nul
  else if x.op = 1 then x.c
  else if x.op = 2 then (if isIx x.col row.length = true then atV row x.col else nul)
  else if 3 ≤ x.op ∧ x.op ≤ 5 then calV x.op (atV pre x.a) (atV pre x.b)
  else if 6 ≤ x.op ∧ x.op ≤ 9 then booV (decB x.op (atV pre x.a) (atV pre x.b))
  else if x.op = 10 then booV (!truB (atV pre x.a))
  else if x.op = 11 then booV (decide ((atV pre x.a).k = 0))
  else nul
def evs (row : List V) (l : List X) : List V := l.foldl (fun acc x => acc ++ [evO x acc row]) []

/- types: (kind, error) -/
def accB (want k : Int) : Bool := decide (k = want ∨ k = 0)
def atK (l : List (Int × Int)) (i : Int) : Int × Int := l.getD i.toNat (0, 0)
def atI (l : List Int) (i : Int) : Int := l.getD i.toNat 0
def unO (op : Int) (a : Int × Int) : Int × Int := if a.2 ≠ 0 then (0, a.2) else if op = 10 ∧ accB 3 a.1 = false then (0, 7) else (3, 0)
def biO (op : Int) (a b : Int × Int) : Int × Int :=
  if a.2 ≠ 0 then (0, a.2) else if b.2 ≠ 0 then (0, b.2)
  else if 3 ≤ op ∧ op ≤ 5 then (if accB 1 a.1 = true ∧ accB 1 b.1 = true then (1, 0) else (0, 7))
  else if op = 6 ∨ op = 7 then (if a.1 = b.1 ∨ a.1 = 0 ∨ b.1 = 0 then (3, 0) else (0, 7))
  else (if accB 3 a.1 = true ∧ accB 3 b.1 = true then (3, 0) else (0, 7))
def chO (x : X) (pre : List (Int × Int)) (cols : List Int) : Int × Int :=
  if ari x.op = -1 ∨ (x.op = 1 ∧ vldB x.c = false) then (0, 5)
  else if lgl x pre.length = false ∨ (x.op = 2 ∧ isIx x.col cols.length = false) then (0, 10)
  else if ari x.op = 1 then unO x.op (atK pre x.a)
  else if ari x.op = 2 then biO x.op (atK pre x.a) (atK pre x.b)
  else if x.op = 2 then (atI cols x.col, 0)
  else (x.c.k, 0)
def chs (cols : List Int) (l : List X) : List (Int × Int) := l.foldl (fun acc x => acc ++ [chO x acc cols]) []
def Clean (l : List (Int × Int)) : Prop := ∀ i : Int, (atK l i).2 ≠ 0 → (atK l i).1 = 0

/- a list that is built by looking back -/
theorem fold_len {α β : Type} (f : α → List β → β) (l : List α) (acc : List β) : (l.foldl (fun acc x => acc ++ [f x acc]) acc).length = acc.length + l.length := by
  induction l generalizing acc with
  | nil => simp
  | cons x l ih => simp only [List.foldl_cons, ih, List.length_append, List.length_cons, List.length_nil]; omega
theorem evs_len (row : List V) (l : List X) : (evs row l).length = l.length := by simp [evs, fold_len (fun x acc => evO x acc row)]
theorem chs_len (cols : List Int) (l : List X) : (chs cols l).length = l.length := by simp [chs, fold_len (fun x acc => chO x acc cols)]
theorem evs_snoc (row : List V) (l : List X) (x : X) : evs row (l ++ [x]) = evs row l ++ [evO x (evs row l) row] := by simp [evs, List.foldl_append]
theorem chs_snoc (cols : List Int) (l : List X) (x : X) : chs cols (l ++ [x]) = chs cols l ++ [chO x (chs cols l) cols] := by simp [chs, List.foldl_append]
theorem evs_succ (row : List V) (l : List X) (k : Nat) (h : k < l.length) : evs row (l.take (k + 1)) = evs row (l.take k) ++ [evO l[k] (evs row (l.take k)) row] := by
  rw [List.take_succ_eq_append_getElem h, evs_snoc]
theorem chs_succ (cols : List Int) (l : List X) (k : Nat) (h : k < l.length) : chs cols (l.take (k + 1)) = chs cols (l.take k) ++ [chO l[k] (chs cols (l.take k)) cols] := by
  rw [List.take_succ_eq_append_getElem h, chs_snoc]
theorem fold_pre {α β : Type} (f : α → List β → β) (l : List α) : ∀ acc : List β, ∃ t, l.foldl (fun acc x => acc ++ [f x acc]) acc = acc ++ t := by
  induction l with
  | nil => intro acc; exact ⟨[], by simp⟩
  | cons x l ih => intro acc; obtain ⟨t, ht⟩ := ih (acc ++ [f x acc]); exact ⟨f x acc :: t, by rw [List.foldl_cons, ht, List.append_assoc]; rfl⟩
theorem evs_app (row : List V) (l m : List X) : ∃ t, evs row (l ++ m) = evs row l ++ t := by
  unfold evs; rw [List.foldl_append]; exact fold_pre (fun x acc => evO x acc row) m _
theorem chs_app (cols : List Int) (l m : List X) : ∃ t, chs cols (l ++ m) = chs cols l ++ t := by
  unfold chs; rw [List.foldl_append]; exact fold_pre (fun x acc => chO x acc cols) m _
theorem getD_pre {α : Type} (a t : List α) (d : α) (k : Nat) (h : k < a.length) : (a ++ t).getD k d = a.getD k d := by
  simp [List.getD, List.getElem?_append_left h]
theorem evs_at (row : List V) (l m : List X) (k : Nat) (h : k < l.length) : (evs row (l ++ m)).getD k nul = (evs row l).getD k nul := by
  obtain ⟨t, ht⟩ := evs_app row l m
  rw [ht, getD_pre _ _ _ _ (by rw [evs_len]; exact h)]
theorem chs_at (cols : List Int) (l m : List X) (k : Nat) (h : k < l.length) : (chs cols (l ++ m)).getD k (0, 0) = (chs cols l).getD k (0, 0) := by
  obtain ⟨t, ht⟩ := chs_app cols l m
  rw [ht, getD_pre _ _ _ _ (by rw [chs_len]; exact h)]
theorem evs_take (row : List V) (l : List X) (n k : Nat) (h : k < n) (hn : n ≤ l.length) : (evs row (l.take n)).getD k nul = (evs row l).getD k nul := by
  have := evs_at row (l.take n) (l.drop n) k (by rw [List.length_take]; omega)
  rw [List.take_append_drop] at this; exact this.symm
theorem chs_take (cols : List Int) (l : List X) (n k : Nat) (h : k < n) (hn : n ≤ l.length) : (chs cols (l.take n)).getD k (0, 0) = (chs cols l).getD k (0, 0) := by
  have := chs_at cols (l.take n) (l.drop n) k (by rw [List.length_take]; omega)
  rw [List.take_append_drop] at this; exact this.symm
theorem getD_last {α : Type} (a : List α) (x d : α) (k : Nat) (h : k = a.length) : (a ++ [x]).getD k d = x := by subst h; simp [List.getD]
/-- the value at k is that of one expression over the values before it -/
theorem evs_get (row : List V) (l : List X) (k : Nat) (h : k < l.length) : (evs row l).getD k nul = evO l[k] (evs row (l.take k)) row := by
  rw [← evs_take row l (k + 1) k (by omega) (by omega), evs_succ row l k h, getD_last]
  rw [evs_len, List.length_take]; omega
theorem chs_get (cols : List Int) (l : List X) (k : Nat) (h : k < l.length) : (chs cols l).getD k (0, 0) = chO l[k] (chs cols (l.take k)) cols := by
  rw [← chs_take cols l (k + 1) k (by omega) (by omega), chs_succ cols l k h, getD_last]
  rw [chs_len, List.length_take]; omega
/- errors have no kind -/
theorem unO_clean (op : Int) (a : Int × Int) (h : (unO op a).2 ≠ 0) : (unO op a).1 = 0 := by
  unfold unO at *; split <;> (try split) <;> simp_all
theorem biO_clean (op : Int) (a b : Int × Int) (h : (biO op a b).2 ≠ 0) : (biO op a b).1 = 0 := by
  unfold biO at *; split <;> (try split) <;> (try split) <;> (try split) <;> (try split) <;> simp_all
theorem chO_clean (x : X) (pre : List (Int × Int)) (cols : List Int) (h : (chO x pre cols).2 ≠ 0) : (chO x pre cols).1 = 0 := by
  unfold chO at *
  by_cases h1 : ari x.op = -1 ∨ (x.op = 1 ∧ vldB x.c = false)
  · rw [if_pos h1]
  rw [if_neg h1] at h ⊢
  by_cases h2 : lgl x pre.length = false ∨ (x.op = 2 ∧ isIx x.col cols.length = false)
  · rw [if_pos h2]
  rw [if_neg h2] at h ⊢
  by_cases h3 : ari x.op = 1
  · rw [if_pos h3] at h ⊢; exact unO_clean _ _ h
  rw [if_neg h3] at h ⊢
  by_cases h4 : ari x.op = 2
  · rw [if_pos h4] at h ⊢; exact biO_clean _ _ _ h
  rw [if_neg h4] at h ⊢
  by_cases h5 : x.op = 2
  · rw [if_pos h5] at h; exact absurd rfl h
  · rw [if_neg h5] at h; exact absurd rfl h
theorem chs_clean (cols : List Int) (l : List X) : Clean (chs cols l) := by
  intro i h
  unfold atK at *
  by_cases hk : i.toNat < l.length
  · rw [chs_get cols l _ hk] at h ⊢; exact chO_clean _ _ _ h
  · rw [List.getD, List.getElem?_eq_none (by rw [chs_len]; omega)] at h; exact absurd rfl h
/- what is reached from a root -/
def rst (l : List X) (i : Nat) (u : List Bool) : List Bool :=
  if u.getD i false = true then
    (if lgB (l.getD i nulX) i = true then (if lgA (l.getD i nulX) i = true then u.set (l.getD i nulX).a.toNat true else u).set (l.getD i nulX).b.toNat true
      else (if lgA (l.getD i nulX) i = true then u.set (l.getD i nulX).a.toNat true else u))
  else u
def rdn (l : List X) : Nat → List Bool → List Bool
  | 0, u => u
  | n + 1, u => rdn l n (rst l n u)
def rea (l : List X) (root : Nat) : List Bool := rdn l (root + 1) ((List.replicate (root + 1) false).set root true)
theorem rst_len (l : List X) (i : Nat) (u : List Bool) : (rst l i u).length = u.length := by
  unfold rst; split <;> (try split) <;> (try split) <;> simp
theorem rdn_len (l : List X) : ∀ n u, (rdn l n u).length = u.length
  | 0, u => rfl
  | n + 1, u => by rw [rdn, rdn_len l n, rst_len]
theorem rea_len (l : List X) (root : Nat) : (rea l root).length = root + 1 := by simp [rea, rdn_len]
theorem set_mono (u : List Bool) (k j : Nat) (h : u.getD j false = true) : (u.set k true).getD j false = true := by
  simp only [List.getD, List.getElem?_set] at *
  split
  · split
    · rfl
    · next h1 h2 => subst h1; rw [List.getElem?_eq_none (by omega)] at h; exact absurd h (by simp)
  · exact h
theorem set_other (u : List Bool) (k j : Nat) (h : k ≠ j) : (u.set k true).getD j false = u.getD j false := by
  simp [List.getD, h]
theorem set_here (u : List Bool) (k : Nat) (h : k < u.length) : (u.set k true).getD k false = true := by
  simp [List.getD, h]
theorem lgA_lt {x : X} {i : Int} (h : lgA x i = true) : 0 ≤ x.a ∧ x.a < i := by simp [lgA, isIx] at h; omega
theorem lgB_lt {x : X} {i : Int} (h : lgB x i = true) : 0 ≤ x.b ∧ x.b < i := by simp [lgB, isIx] at h; omega
theorem rst_mono (l : List X) (i j : Nat) (u : List Bool) (h : u.getD j false = true) : (rst l i u).getD j false = true := by
  unfold rst; split
  · split <;> split
    · exact set_mono _ _ _ (set_mono _ _ _ h)
    · exact set_mono _ _ _ h
    · exact set_mono _ _ _ h
    · exact h
  · exact h
theorem rdn_mono (l : List X) (j : Nat) : ∀ n u, u.getD j false = true → (rdn l n u).getD j false = true
  | 0, _, h => h
  | n + 1, u, h => by rw [rdn]; exact rdn_mono l j n _ (rst_mono l n j u h)
theorem rst_high (l : List X) (i j : Nat) (u : List Bool) (hj : i ≤ j) : (rst l i u).getD j false = u.getD j false := by
  unfold rst; split
  · split <;> split
    · next h1 h2 => rw [set_other _ _ _ (by have := lgB_lt h1; omega), set_other _ _ _ (by have := lgA_lt h2; omega)]
    · next h1 h2 => rw [set_other _ _ _ (by have := lgB_lt h1; omega)]
    · next h1 h2 => rw [set_other _ _ _ (by have := lgA_lt h2; omega)]
    · rfl
  · rfl
theorem rdn_high (l : List X) (j : Nat) : ∀ n u, n ≤ j + 1 → (rdn l n u).getD j false = u.getD j false
  | 0, _, _ => rfl
  | n + 1, u, h => by rw [rdn, rdn_high l j n _ (by omega), rst_high l n j u (by omega)]
/-- operands of what is reached are reached -/
theorem rdn_closed (l : List X) : ∀ n u, n ≤ u.length → ∀ i, i < n → (rdn l n u).getD i false = true →
    (lgA (l.getD i nulX) i = true → (rdn l n u).getD (l.getD i nulX).a.toNat false = true) ∧ (lgB (l.getD i nulX) i = true → (rdn l n u).getD (l.getD i nulX).b.toNat false = true)
  | 0, _, _, i, h, _ => absurd h (by omega)
  | n + 1, u, hn, i, h, hr => by
    rw [rdn] at *
    by_cases hi : i < n
    · exact rdn_closed l n _ (by rw [rst_len]; omega) i hi hr
    · have e : i = n := by omega
      subst e
      rw [rdn_high l i i _ (by omega), rst_high l i i u (by omega)] at hr
      constructor
      · intro ha
        have := lgA_lt ha
        refine rdn_mono l _ i _ ?_
        rw [rst, if_pos hr, if_pos ha]
        split
        · exact set_mono _ _ _ (set_here _ _ (by omega))
        · exact set_here _ _ (by omega)
      · intro hb
        have := lgB_lt hb
        refine rdn_mono l _ i _ ?_
        rw [rst, if_pos hr, if_pos hb]
        exact set_here _ _ (by split <;> (try rw [List.length_set]) <;> omega)
theorem rea_closed (l : List X) (root i : Nat) (hi : i ≤ root) (h : (rea l root).getD i false = true) :
    (lgA (l.getD i nulX) i = true → (rea l root).getD (l.getD i nulX).a.toNat false = true) ∧ (lgB (l.getD i nulX) i = true → (rea l root).getD (l.getD i nulX).b.toNat false = true) :=
  rdn_closed l (root + 1) _ (by simp) i (by omega) h
theorem rea_root (l : List X) (root : Nat) : (rea l root).getD root false = true := by
  unfold rea; exact rdn_mono l _ _ _ (set_here _ _ (by simp))
def okN (n : Int) : Prop := -9223372036854775808 ≤ n ∧ n ≤ 9223372036854775807
/- numbers stay within 64 bits -/
def OkR (row : List V) : Prop := ∀ v ∈ row, okN v.n
def OkX (l : List X) : Prop := ∀ x ∈ l, okN x.c.n
/-- what Eval returns -/
def evlV (l : List X) (root : Int) (row : List V) : V := if isIx root l.length = false then nul else atV (evs row l) root
/-- what Check returns -/
def chkV (l : List X) (root : Int) (cols : List Int) : Int × Int := if 200 < l.length then (0, 4) else if isIx root l.length = false then (0, 10) else atK (chs cols l) root
end Go.Proofs.YtbplapkcleipiaaGreatDoor
