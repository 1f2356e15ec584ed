/- Expressions in plain lists: operators, legal operands, types, values, what is reached. -/
import Derived.Test.YtdamlnfjhpmpmaaVl
namespace Go.Proofs.Ytdamlnfjhpmpmaa

structure X where
  op : Int
  a : Int
  b : Int
  col : Int
  c : V
def nul : V := ⟨0, 0, []⟩
def nulX : X := ⟨0, 0, 0, 0, nul⟩
instance : Inhabited X := ⟨nulX⟩
/-- how many operands an operator has; -1: there is no such operator -/
def ari (op : Int) : Int := if op = 1 ∨ op = 2 then 0 else if op = 10 ∨ op = 11 then 1 else if 3 ≤ op ∧ op ≤ 9 then 2 else -1
def isIx (i n : Int) : Bool := decide (0 ≤ i ∧ i < n)
def lgA (x : X) (i : Int) : Bool := decide (1 ≤ ari x.op) && isIx x.a i
def lgB (x : X) (i : Int) : Bool := decide (ari x.op = 2) && isIx x.b i
/-- all operands legal -/
def lgl (x : X) (i : Int) : Bool := (decide (ari x.op < 1) || isIx x.a i) && (decide (ari x.op < 2) || isIx x.b i)
theorem ops (op : Int) : (op = 1 ∨ op = 2 ∨ op = 3 ∨ op = 4 ∨ op = 5 ∨ op = 6 ∨ op = 7 ∨ op = 8 ∨ op = 9 ∨ op = 10 ∨ op = 11) ∨ (op < 1 ∨ 11 < op) := by omega
theorem ari_vals (op : Int) : ari op = -1 ∨ ari op = 0 ∨ ari op = 1 ∨ ari op = 2 := by unfold ari; split <;> (try split) <;> (try split) <;> simp
theorem isIx_iff (i n : Int) : isIx i n = true ↔ 0 ≤ i ∧ i < n := by simp [isIx]
theorem isIx_no (i n : Int) : isIx i n = false ↔ i < 0 ∨ n ≤ i := by simp [isIx]; omega

/- values -/
def truB (v : V) : Bool := decide (v.k = 3 ∧ v.n = 1)
def booV (b : Bool) : V := ⟨3, if b then 1 else 0, []⟩
def fitB (z : Int) : Bool := decide (-9223372036854775808 ≤ z ∧ z ≤ 9223372036854775807)
def numV (z : Int) : V := if fitB z = true then ⟨1, z, []⟩ else nul
def resV (op a b : Int) : Int := if op = 3 then a + b else if op = 4 then a - b else a * b
def calV (op : Int) (a b : V) : V := if a.k = 1 ∧ b.k = 1 then numV (resV op a.n b.n) else nul
def eqB (a b : V) : Bool := decide (a.k ≠ 0 ∧ cmpV a b = 0)
def leB (a b : V) : Bool := decide (a.k = b.k ∧ a.k ≠ 0 ∧ cmpV a b < 0)
def decB (op : Int) (a b : V) : Bool := if op = 6 then eqB a b else if op = 7 then leB a b else if op = 8 then truB a && truB b else truB a || truB b
def atV (l : List V) (i : Int) : V := l.getD i.toNat nul
/-- the value of one expression, given the values of those before it -/
def evO (x : X) (pre row : List V) : V :=
  if lgl x pre.length = false then nul
  else if x.op = 1 then x.c
  else if x.op = 2 then (if isIx x.col row.length = true then atV row x.col else nul)
  else if 3 ≤ x.op ∧ x.op ≤ 5 then calV x.op (atV pre x.a) (atV pre x.b)
  else if 6 ≤ x.op ∧ x.op ≤ 9 then booV (decB x.op (atV pre x.a) (atV pre x.b))
  else if x.op = 10 then booV (!truB (atV pre x.a))
  else if x.op = 11 then booV (decide ((atV pre x.a).k = 0))
  else nul
def evs (row : List V) (l : List X) : List V := l.foldl (fun acc x => acc ++ [evO x acc row]) []

/- types: (kind, error) -/
def accB (want k : Int) : Bool := decide (k = want ∨ k = 0)
def atK (l : List (Int × Int)) (i : Int) : Int × Int := l.getD i.toNat (0, 0)
def atI (l : List Int) (i : Int) : Int := l.getD i.toNat 0
def unO (op : Int) (a : Int × Int) : Int × Int := if a.2 ≠ 0 then (0, a.2) else if op = 10 ∧ accB 3 a.1 = false then (0, 7) else (3, 0)
def biO (op : Int) (a b : Int × Int) : Int × Int :=
  if a.2 ≠ 0 then (0, a.2) else if b.2 ≠ 0 then (0, b.2)
  else if 3 ≤ op ∧ op ≤ 5 then (if accB 1 a.1 = true ∧ accB 1 b.1 = true then (1, 0) else (0, 7))
  else if op = 6 ∨ op = 7 then (if a.1 = b.1 ∨ a.1 = 0 ∨ b.1 = 0 then (3, 0) else (0, 7))
  else (if accB 3 a.1 = true ∧ accB 3 b.1 = true then (3, 0) else (0, 7))
def chO (x : X) (pre : List (Int × Int)) (cols : List Int) : Int × Int :=
  if ari x.op = -1 ∨ (x.op = 1 ∧ vldB x.c = false) then (0, 5)
  else if lgl x pre.length = false ∨ (x.op = 2 ∧ isIx x.col cols.length = false) then (0, 10)
  else if ari x.op = 1 then unO x.op (atK pre x.a)
  else if ari x.op = 2 then biO x.op (atK pre x.a) (atK pre x.b)
  else if x.op = 2 then (atI cols x.col, 0)
  else (x.c.k, 0)
def chs (cols : List Int) (l : List X) : List (Int × Int) := l.foldl (fun acc x => acc ++ [chO x acc cols]) []
def Clean (l : List (Int × Int)) : Prop := ∀ i : Int, (atK l i).2 ≠ 0 → (atK l i).1 = 0

/- a list that is built by looking back -/
theorem fold_len {α β : Type} (f : α → List β → β) (l : List α) (acc : List β) : (l.foldl (fun acc x => acc ++ [f x acc]) acc).length = acc.length + l.length := by
  induction l generalizing acc with
  | nil => simp
  | cons x l ih => simp only [List.foldl_cons, ih, List.length_append, List.length_cons, List.length_nil]; omega
theorem evs_len (row : List V) (l : List X) : (evs row l).length = l.length := by simp [evs, fold_len (fun x acc => evO x acc row)]
theorem chs_len (cols : List Int) (l : List X) : (chs cols l).length = l.length := by simp [chs, fold_len (fun x acc => chO x acc cols)]
theorem evs_snoc (row : List V) (l : List X) (x : X) : evs row (l ++ [x]) = evs row l ++ [evO x (evs row l) row] := by simp [evs, List.foldl_append]
theorem chs_snoc (cols : List Int) (l : List X) (x : X) : chs cols (l ++ [x]) = chs cols l ++ [chO x (chs cols l) cols] := by simp [chs, List.foldl_append]
theorem evs_succ (row : List V) (l : List X) (k : Nat) (h : k < l.length) : evs row (l.take (k + 1)) = evs row (l.take k) ++ [evO l[k] (evs row (l.take k)) row] := by
  rw [List.take_succ_eq_append_getElem h, evs_snoc]
theorem chs_succ (cols : List Int) (l : List X) (k : Nat) (h : k < l.length) : chs cols (l.take (k + 1)) = chs cols (l.take k) ++ [chO l[k] (chs cols (l.take k)) cols] := by
  rw [List.take_succ_eq_append_getElem h, chs_snoc]
theorem fold_pre {α β : Type} (f : α → List β → β) (l : List α) : ∀ acc : List β, ∃ t, l.foldl (fun acc x => acc ++ [f x acc]) acc = acc ++ t := by
  induction l with
  | nil => intro acc; exact ⟨[], by simp⟩
  | cons x l ih => intro acc; obtain ⟨t, ht⟩ := ih (acc ++ [f x acc]); exact ⟨f x acc :: t, by rw [List.foldl_cons, ht, List.append_assoc]; rfl⟩
theorem evs_app (row : List V) (l m : List X) : ∃ t, evs row (l ++ m) = evs row l ++ t := by
  unfold evs; rw [List.foldl_append]; exact fold_pre (fun x acc => evO x acc row) m _
theorem chs_app (cols : List Int) (l m : List X) : ∃ t, chs cols (l ++ m) = chs cols l ++ t := by
  unfold chs; rw [List.foldl_append]; exact fold_pre (fun x acc => chO x acc cols) m _
theorem getD_pre {α : Type} (a t : List α) (d : α) (k : Nat) (h : k < a.length) : (a ++ t).getD k d = a.getD k d := by
  simp [List.getD, List.getElem?_append_left h]
theorem evs_at (row : List V) (l m : List X) (k : Nat) (h : k < l.length) : (evs row (l ++ m)).getD k nul = (evs row l).getD k nul := by
  obtain ⟨t, ht⟩ := evs_app row l m
  rw [ht, getD_pre _ _ _ _ (by rw [evs_len]; exact h)]
theorem chs_at (cols : List Int) (l m : List X) (k : Nat) (h : k < l.length) : (chs cols (l ++ m)).getD k (0, 0) = (chs cols l).getD k (0, 0) := by
  obtain ⟨t, ht⟩ := chs_app cols l m
  rw [ht, getD_pre _ _ _ _ (by rw [chs_len]; exact h)]
theorem evs_take (row : List V) (l : List X) (n k : Nat) (h : k < n) (hn : n ≤ l.length) : (evs row (l.take n)).getD k nul = (evs row l).getD k nul := by
  have := evs_at row (l.take n) (l.drop n) k (by rw [List.length_take]; omega)
  rw [List.take_append_drop] at this; exact this.symm
theorem chs_take (cols : List Int) (l : List X) (n k : Nat) (h : k < n) (hn : n ≤ l.length) : (chs cols (l.take n)).getD k (0, 0) = (chs cols l).getD k (0, 0) := by
  have := chs_at cols (l.take n) (l.drop n) k (by rw [List.length_take]; omega)
  rw [List.take_append_drop] at this; exact this.symm
theorem getD_last {α : Type} (a : List α) (x d : α) (k : Nat) (h : k = a.length) : (a ++ [x]).getD k d = x := by subst h; simp [List.getD]
/-- the value at k is that of one expression over the values before it -/
theorem evs_get (row : List V) (l : List X) (k : Nat) (h : k < l.length) : (evs row l).getD k nul = evO l[k] (evs row (l.take k)) row := by
  rw [← evs_take row l (k + 1) k (by omega) (by omega), evs_succ row l k h, getD_last]
  rw [evs_len, List.length_take]; omega
theorem chs_get (cols : List Int) (l : List X) (k : Nat) (h : k < l.length) : (chs cols l).getD k (0, 0) = chO l[k] (chs cols (l.take k)) cols := by
  rw [← chs_take cols l (k + 1) k (by omega) (by omega), chs_succ cols l k h, getD_last]
  rw [chs_len, List.length_take]; omega
/- errors have no kind -/
theorem unO_clean (op : Int) (a : Int × Int) (h : (unO op a).2 ≠ 0) : (unO op a).1 = 0 := by
  unfold unO at *; split <;> (try split) <;> simp_all
theorem biO_clean (op : Int) (a b : Int × Int) (h : (biO op a b).2 ≠ 0) : (biO op a b).1 = 0 := by
  unfold biO at *; split <;> (try split) <;> (try split) <;> (try split) <;> (try split) <;> simp_all
theorem chO_clean (x : X) (pre : List (Int × Int)) (cols : List Int) (h : (chO x pre cols).2 ≠ 0) : (chO x pre cols).1 = 0 := by
  unfold chO at *
  by_cases h1 : ari x.op = -1 ∨ (x.op = 1 ∧ vldB x.c = false)
  · rw [if_pos h1]
  rw [if_neg h1] at h ⊢
  by_cases h2 : lgl x pre.length = false ∨ (x.op = 2 ∧ isIx x.col cols.length = false)
  · rw [if_pos h2]
  rw [if_neg h2] at h ⊢
  by_cases h3 : ari x.op = 1
  · rw [if_pos h3] at h ⊢; exact unO_clean _ _ h
  rw [if_neg h3] at h ⊢
  by_cases h4 : ari x.op = 2
  · rw [if_pos h4] at h ⊢; exact biO_clean _ _ _ h
  rw [if_neg h4] at h ⊢
  by_cases h5 : x.op = 2
  · rw [if_pos h5] at h; exact absurd rfl h
  · rw [if_neg h5] at h; exact absurd rfl h
theorem chs_clean (cols : List Int) (l : List X) : Clean (chs cols l) := by
  intro i h
  unfold atK at *
  by_cases hk : i.toNat < l.length
  · rw [chs_get cols l _ hk] at h ⊢; exact chO_clean _ _ _ h
  · rw [List.getD, List.getElem?_eq_none (by rw [chs_len]; omega)] at h; exact absurd rfl h
/- what is reached from a root -/
def rst (l : List X) (i : Nat) (u : List Bool) : List Bool :=
  if u.getD i false = true then
    (if lgB (l.getD i nulX) i = true then (if lgA (l.getD i nulX) i = true then u.set (l.getD i nulX).a.toNat true else u).set (l.getD i nulX).b.toNat true
      else (if lgA (l.getD i nulX) i = true then u.set (l.getD i nulX).a.toNat true else u))
  else u
def rdn (l : List X) : Nat → List Bool → List Bool
  | 0, u => u
  | n + 1, u => rdn l n (rst l n u)
def rea (l : List X) (root : Nat) : List Bool := rdn l (root + 1) ((List.replicate (root + 1) false).set root true)
theorem rst_len (l : List X) (i : Nat) (u : List Bool) : (rst l i u).length = u.length := by
  unfold rst; split <;> (try split) <;> (try split) <;> simp
theorem rdn_len (l : List X) : ∀ n u, (rdn l n u).length = u.length
  | 0, u => rfl
  | n + 1, u => by rw [rdn, rdn_len l n, rst_len]
theorem rea_len (l : List X) (root : Nat) : (rea l root).length = root + 1 := by simp [rea, rdn_len]
theorem set_mono (u : List Bool) (k j : Nat) (h : u.getD j false = true) : (u.set k true).getD j false = true := by
  simp only [List.getD, List.getElem?_set] at *
  split
  · split
    · rfl
    · next h1 h2 => subst h1; rw [List.getElem?_eq_none (by omega)] at h; exact absurd h (by simp)
  · exact h
theorem set_other (u : List Bool) (k j : Nat) (h : k ≠ j) : (u.set k true).getD j false = u.getD j false := by
  simp [List.getD, h]
theorem set_here (u : List Bool) (k : Nat) (h : k < u.length) : (u.set k true).getD k false = true := by
  simp [List.getD, h]
theorem lgA_lt {x : X} {i : Int} (h : lgA x i = true) : 0 ≤ x.a ∧ x.a < i := by simp [lgA, isIx] at h; omega
theorem lgB_lt {x : X} {i : Int} (h : lgB x i = true) : 0 ≤ x.b ∧ x.b < i := by simp [lgB, isIx] at h; omega
theorem rst_mono (l : List X) (i j : Nat) (u : List Bool) (h : u.getD j false = true) : (rst l i u).getD j false = true := by
  unfold rst; split
  · split <;> split
    · exact set_mono _ _ _ (set_mono _ _ _ h)
    · exact set_mono _ _ _ h
    · exact set_mono _ _ _ h
    · exact h
  · exact h
theorem rdn_mono (l : List X) (j : Nat) : ∀ n u, u.getD j false = true → (rdn l n u).getD j false = true
  | 0, _, h => h
  | n + 1, u, h => by rw [rdn]; exact rdn_mono l j n _ (rst_mono l n j u h)
theorem rst_high (l : List X) (i j : Nat) (u : List Bool) (hj : i ≤ j) : (rst l i u).getD j false = u.getD j false := by
  unfold rst; split
  · split <;> split
    · next h1 h2 => rw [set_other _ _ _ (by have := lgB_lt h1; omega), set_other _ _ _ (by have := lgA_lt h2; omega)]
    · next h1 h2 => rw [set_other _ _ _ (by have := lgB_lt h1; omega)]
    · next h1 h2 => rw [set_other _ _ _ (by have := lgA_lt h2; omega)]
    · rfl
  · rfl
theorem rdn_high (l : List X) (j : Nat) : ∀ n u, n ≤ j + 1 → (rdn l n u).getD j false = u.getD j false
  | 0, _, _ => rfl
  | n + 1, u, h => by rw [rdn, rdn_high l j n _ (by omega), rst_high l n j u (by omega)]
/-- operands of what is reached are reached -/
theorem rdn_closed (l : List X) : ∀ n u, n ≤ u.length → ∀ i, i < n → (rdn l n u).getD i false = true →
    (lgA (l.getD i nulX) i = true → (rdn l n u).getD (l.getD i nulX).a.toNat false = true) ∧ (lgB (l.getD i nulX) i = true → (rdn l n u).getD (l.getD i nulX).b.toNat false = true)
  | 0, _, _, i, h, _ => absurd h (by omega)
  | n + 1, u, hn, i, h, hr => by
    rw [rdn] at *
    by_cases hi : i < n
    · exact rdn_closed l n _ (by rw [rst_len]; omega) i hi hr
    · have e : i = n := by omega
      subst e
      rw [rdn_high l i i _ (by omega), rst_high l i i u (by omega)] at hr
      constructor
      · intro ha
        have := lgA_lt ha
        refine rdn_mono l _ i _ ?_
        rw [rst, if_pos hr, if_pos ha]
        split
        · exact set_mono _ _ _ (set_here _ _ (by omega))
        · exact set_here _ _ (by omega)
      · intro hb
        have := lgB_lt hb
        refine rdn_mono l _ i _ ?_
        rw [rst, if_pos hr, if_pos hb]
        exact set_here _ _ (by split <;> (try rw [List.length_set]) <;> omega)
theorem rea_closed (l : List X) (root i : Nat) (hi : i ≤ root) (h : (rea l root).getD i false = true) :
    (lgA (l.getD i nulX) i = true → (rea l root).getD (l.getD i nulX).a.toNat false = true) ∧ (lgB (l.getD i nulX) i = true → (rea l root).getD (l.getD i nulX).b.toNat false = true) :=
  rdn_closed l (root + 1) _ (by simp) i (by omega) h
theorem rea_root (l : List X) (root : Nat) : (rea l root).getD root false = true := by
  unfold rea; exact rdn_mono l _ _ _ (set_here _ _ (by simp))
end Go.Proofs.Ytdamlnfjhpmpmaa
