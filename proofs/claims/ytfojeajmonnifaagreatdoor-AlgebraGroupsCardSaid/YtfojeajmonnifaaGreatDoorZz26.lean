/- Texts of values, and keys, in plain lists. -/
import Derived.Lib.Replace
import Derived.Deep.QuietTactic
import Derived.BigQuiet
import Derived.Test.YtfojeajmonnifaaGreatDoorZz05
import Derived.Test.YtfojeajmonnifaaGreatDoorZz25
namespace Go.Proofs.YtfojeajmonnifaaGreatDoor

def nullL : List UInt8 := [110, 117, 108, 108]
def trueL : List UInt8 := [116, 114, 117, 101]
def falseL : List UInt8 := [102, 97, 108, 115, 101]
def dbl : List UInt8 → List UInt8
  | [] => []
  | c :: r => if c = 39 then 39 :: 39 :: dbl r else c :: dbl r
def fmtV (v : V) : List UInt8 :=
  if vldB v = true then (if v.k = 0 then nullL else if v.k = 1 then Lib.itoa v.n else if v.k = 3 then (if v.n = 1 then trueL else falseL) else 39 :: (dbl v.s ++ [39])) else []
def unq : List UInt8 → Option (List UInt8)
  | [] => some []
  | [c] => if c = 39 then none else some [c]
  | c :: d :: r => if c = 39 then (if d = 39 then (unq r).map (39 :: ·) else none) else (unq (d :: r)).map (c :: ·)
def qin : List UInt8 → Option (List UInt8)
  | [] => none
  | c :: r => if c = 39 ∧ r.getLast? = some 39 then some r.dropLast else none
def txtV (l : List UInt8) : V × Int :=
  match qin l with
  | none => (⟨0, 0, []⟩, 5)
  | some i => match unq i with
    | none => (⟨0, 0, []⟩, 5)
    | some s => if s.length ≤ 200 then (⟨2, 0, s⟩, 0) else (⟨0, 0, []⟩, 4)
def intV (l : List UInt8) : V × Int :=
  match numT l with
  | some n => (⟨1, n, []⟩, 0)
  | none => (⟨0, 0, []⟩, 10)
def prsV (l : List UInt8) : V × Int :=
  if l = nullL then (⟨0, 0, []⟩, 0) else if l = trueL then (⟨3, 1, []⟩, 0) else if l = falseL then (⟨3, 0, []⟩, 0)
  else if numF l = true then intV l else txtV l

theorem unq_ne (c : UInt8) (r : List UInt8) (h : c ≠ 39) : unq (c :: r) = (unq r).map (c :: ·) := by
  cases r with
  | nil => simp [unq, h]
  | cons d r => rw [unq, if_neg h]
theorem unq_two (r : List UInt8) : unq (39 :: 39 :: r) = (unq r).map (39 :: ·) := by rw [unq, if_pos rfl, if_pos rfl]
theorem unq_one : unq [39] = none := by simp [unq]
theorem unq_bad (d : UInt8) (r : List UInt8) (h : d ≠ 39) : unq (39 :: d :: r) = none := by rw [unq, if_pos rfl, if_neg h]
theorem unq_dbl : ∀ s, unq (dbl s) = some s
  | [] => rfl
  | c :: r => by
    have ih := unq_dbl r
    unfold dbl
    by_cases h : c = 39
    · rw [if_pos h, unq_two, ih, h]; rfl
    · rw [if_neg h, unq_ne c _ h, ih]; rfl
theorem dbl_unq (n : Nat) : ∀ l s, l.length ≤ n → unq l = some s → dbl s = l := by
  induction n with
  | zero =>
    intro l s hl h
    obtain rfl : l = [] := List.length_eq_zero_iff.1 (by omega)
    simp [unq] at h; subst h; rfl
  | succ n ih =>
    intro l s hl h
    cases l with
    | nil => simp [unq] at h; subst h; rfl
    | cons c r =>
      by_cases hc : c = 39
      · subst hc
        cases r with
        | nil => simp [unq] at h
        | cons d r =>
          by_cases hd : d = 39
          · subst hd
            rw [unq_two] at h
            cases hu : unq r with
            | none => rw [hu] at h; cases h
            | some t =>
              rw [hu] at h
              simp only [Option.map_some, Option.some.injEq] at h
              subst h
              rw [dbl, if_pos rfl, ih r t (by simp at hl; omega) hu]
          · rw [unq_bad d r hd] at h; cases h
      · rw [unq_ne c r hc] at h
        cases hu : unq r with
        | none => rw [hu] at h; cases h
        | some t =>
          rw [hu] at h
          simp only [Option.map_some, Option.some.injEq] at h
          subst h
          rw [dbl, if_neg hc, ih r t (by simp at hl; omega) hu]
theorem dbl_len (s : List UInt8) : s.length ≤ (dbl s).length ∧ (dbl s).length ≤ 2 * s.length := by
  induction s with
  | nil => exact ⟨Nat.le_refl _, Nat.le_refl _⟩
  | cons c r ih => unfold dbl; split <;> (simp only [List.length_cons]; omega)
theorem dbl_app (a b : List UInt8) : dbl (a ++ b) = dbl a ++ dbl b := by
  induction a with
  | nil => rfl
  | cons c r ih => rw [List.cons_append, dbl, dbl]; split <;> simp [ih]
theorem qin_of (i : List UInt8) : qin (39 :: (i ++ [39])) = some i := by simp [qin]
theorem of_qin (l i : List UInt8) (h : qin l = some i) : l = 39 :: (i ++ [39]) := by
  cases l with
  | nil => cases h
  | cons c r =>
    by_cases hc : c = 39 ∧ r.getLast? = some 39
    · rw [qin, if_pos hc] at h
      obtain ⟨rfl, hl⟩ := hc
      injection h with h
      subst h
      rw [List.getLast?_eq_some_iff] at hl
      obtain ⟨ys, rfl⟩ := hl
      simp
    · rw [qin, if_neg hc] at h; exact absurd h (by simp)
theorem qt_not_num (i : List UInt8) : numF (39 :: i) = false := by
  have : Lib.trimPrefix (39 :: i) [45] = 39 :: i := by simp [Lib.trimPrefix, Lib.hasPrefix]
  unfold numF
  rw [this]
  have : digs (39 :: i) = false := by
    cases hd : digs (39 :: i) with
    | false => rfl
    | true => have := ((digs_cons _ _).1 hd).1; simp [isDig] at this
  rw [this]; rfl
theorem num_not_word (l : List UInt8) (h : numF l = true) : l ≠ nullL ∧ l ≠ trueL ∧ l ≠ falseL :=
  ⟨fun e => by rw [e] at h; revert h; decide, fun e => by rw [e] at h; revert h; decide, fun e => by rw [e] at h; revert h; decide⟩
theorem prs_num (l : List UInt8) (h : numF l = true) : prsV l = intV l := by
  obtain ⟨h1, h2, h3⟩ := num_not_word l h
  unfold prsV; rw [if_neg h1, if_neg h2, if_neg h3, if_pos h]
theorem prs_qt (i : List UInt8) : prsV (39 :: i) = txtV (39 :: i) := by
  unfold prsV
  rw [if_neg (by unfold nullL; simp), if_neg (by unfold trueL; simp), if_neg (by unfold falseL; simp), if_neg (by rw [qt_not_num]; decide)]
theorem prs_fmt (v : V) (h : vldB v = true) (h0 : -9223372036854775808 ≤ v.n) (h1 : v.n ≤ 9223372036854775807) : prsV (fmtV v) = (v, 0) := by
  unfold fmtV
  rw [if_pos h]
  obtain ⟨k, n, s⟩ := v
  unfold vldB at h
  simp only [decide_eq_true_eq] at h h0 h1 ⊢
  rcases h with ⟨rfl, rfl, rfl⟩ | ⟨rfl, rfl⟩ | ⟨rfl, rfl, hs⟩ | ⟨rfl, rfl | rfl, rfl⟩
  · rfl
  · rw [if_neg (by decide), if_pos rfl, prs_num _ (numF_itoa n)]; unfold intV; rw [numT_itoa n h0 h1]
  · rw [if_neg (by decide), if_neg (by decide), if_neg (by decide), prs_qt]; unfold txtV; simp only [qin_of, unq_dbl]; rw [if_pos hs]
  · rfl
  · rfl
theorem fmt_prs (l : List UInt8) (h : (prsV l).2 = 0) : vldB (prsV l).1 = true ∧ fmtV (prsV l).1 = l := by
  by_cases h1 : l = nullL
  · subst h1; exact ⟨by decide, by decide⟩
  by_cases h2 : l = trueL
  · subst h2; exact ⟨by decide, by decide⟩
  by_cases h3 : l = falseL
  · subst h3; exact ⟨by decide, by decide⟩
  by_cases h4 : numF l = true
  · rw [prs_num l h4] at h ⊢
    unfold intV at h ⊢
    cases hv : numT l with
    | none => rw [hv] at h; simp at h
    | some n =>
      have := (itoa_numV l n h4 hv).1
      have hw : vldB ⟨1, n, []⟩ = true := by unfold vldB; simp
      refine ⟨hw, ?_⟩
      unfold fmtV
      rw [if_pos hw]
      simpa using this
  · have e : prsV l = txtV l := by unfold prsV; rw [if_neg h1, if_neg h2, if_neg h3, if_neg h4]
    rw [e] at h ⊢
    unfold txtV at h ⊢
    cases hq : qin l with
    | none => rw [hq] at h; simp at h
    | some i =>
      rw [hq] at h
      simp only at h ⊢
      cases hu : unq i with
      | none => rw [hu] at h; simp at h
      | some s =>
        rw [hu] at h
        simp only at h ⊢
        by_cases hl : s.length ≤ 200
        · rw [if_pos hl]
          have hw : vldB ⟨2, 0, s⟩ = true := by unfold vldB; simp [hl]
          refine ⟨hw, ?_⟩
          unfold fmtV
          rw [if_pos hw, of_qin l i hq, ← dbl_unq _ i s (Nat.le_refl _) hu]
          simp
        · rw [if_neg hl] at h; simp at h
theorem prs_err (l : List UInt8) : (prsV l).2 = 0 ∨ (prsV l).1 = ⟨0, 0, []⟩ := by
  unfold prsV intV txtV
  split
  · exact Or.inl rfl
  split
  · exact Or.inl rfl
  split
  · exact Or.inl rfl
  split
  · split
    · exact Or.inl rfl
    · exact Or.inr rfl
  · split
    · exact Or.inr rfl
    · split
      · exact Or.inr rfl
      · split
        · exact Or.inl rfl
        · exact Or.inr rfl
theorem replaceK_dbl : ∀ s : List UInt8, Lib.replaceK [39] [39, 39] (s.count 39) s = dbl s
  | [] => rfl
  | c :: r => by
    have ih := replaceK_dbl r
    by_cases hc : c = 39
    · subst hc
      rw [List.count_cons_self, Lib.replaceK_hit _ _ _ _ 0 (by simp [Lib.index]), dbl, if_pos rfl]
      simp [ih]
    · have hcnt : (c :: r).count 39 = r.count 39 := by rw [List.count_cons_of_ne]; exact hc
      rw [hcnt, dbl, if_neg hc]
      cases hk : r.count 39 with
      | zero => rw [hk] at ih; simp only [Lib.replaceK] at ih ⊢; rw [← ih]
      | succ m =>
        obtain ⟨i, hi⟩ := Lib.index_of_count (s := r) (old := [39]) (by rw [Lib.count_one, hk]; omega)
        have hi' : Lib.index (c :: r) [39] = ((i + 1 : Nat) : Int) := by
          rw [Lib.index, if_neg (by simp [Ne.symm hc]), hi, if_neg (by simp), Int.natCast_add]; rfl
        rw [hk, Lib.replaceK_hit _ _ m r i hi] at ih
        rw [Lib.replaceK_hit _ _ m (c :: r) (i + 1) hi', ← ih]
        simp
theorem replace_dbl (s : List UInt8) : Lib.replaceAll s [39] [39, 39] = dbl s := by
  unfold Lib.replaceAll Lib.replace Lib.replaceNum
  rw [if_neg (by decide), if_pos (Or.inl (by decide)), Lib.count_one]
  exact replaceK_dbl s

def keyL : List V → List UInt8
  | [] => []
  | v :: r => Lib.itoa v.k ++ 44 :: (Lib.itoa v.n ++ 44 :: (Lib.itoa v.s.length ++ 58 :: (v.s ++ keyL r)))
theorem keyL_app (a b : List V) : keyL (a ++ b) = keyL a ++ keyL b := by
  induction a with
  | nil => rfl
  | cons v r ih => simp [keyL, ih]
theorem keyL_snoc (a : List V) (v : V) : keyL (a ++ [v]) = keyL a ++ Lib.itoa v.k ++ [44] ++ Lib.itoa v.n ++ [44] ++ Lib.itoa v.s.length ++ [58] ++ v.s := by
  rw [keyL_app]; simp [keyL]
theorem cut_at (c : UInt8) : ∀ x y r t : List UInt8, c ∉ x → c ∉ y → x ++ c :: r = y ++ c :: t → x = y ∧ r = t
  | [], [], r, t, _, _, h => by simpa using h
  | [], b :: y, r, t, _, hy, h => by simp at h; exact absurd (by rw [h.1]; simp) hy
  | a :: x, [], r, t, hx, _, h => by simp at h; exact absurd (by rw [h.1]; simp) hx
  | a :: x, b :: y, r, t, hx, hy, h => by
    simp only [List.cons_append, List.cons.injEq] at h
    obtain ⟨rfl, h⟩ := h
    have := cut_at c x y r t (fun m => hx (List.mem_cons_of_mem _ m)) (fun m => hy (List.mem_cons_of_mem _ m)) h
    exact ⟨by rw [this.1], this.2⟩
theorem itoa_no (n : Int) (c : UInt8) (h : isDig c = false) (h2 : c ≠ 45) : c ∉ Lib.itoa n := by
  intro m
  rcases itoa_chars n c m with e | e
  · rw [h] at e; cases e
  · exact h2 e
theorem key_inj : ∀ a b : List V, keyL a = keyL b → a = b
  | [], [], _ => rfl
  | [], v :: r, h => by
    have := congrArg List.length h
    simp [keyL] at this
  | v :: r, [], h => by
    have := congrArg List.length h
    simp [keyL] at this
  | v :: r, u :: t, h => by
    unfold keyL at h
    obtain ⟨e1, h⟩ := cut_at 44 _ _ _ _ (itoa_no _ _ (by decide) (by decide)) (itoa_no _ _ (by decide) (by decide)) h
    obtain ⟨e2, h⟩ := cut_at 44 _ _ _ _ (itoa_no _ _ (by decide) (by decide)) (itoa_no _ _ (by decide) (by decide)) h
    obtain ⟨e3, h⟩ := cut_at 58 _ _ _ _ (itoa_no _ _ (by decide) (by decide)) (itoa_no _ _ (by decide) (by decide)) h
    have e3 := itoa_inj _ _ e3
    obtain ⟨e4, h⟩ := List.append_inj h (by omega)
    rw [key_inj r t h]
    obtain ⟨vk, vn, vs⟩ := v
    obtain ⟨uk, un, us⟩ := u
    simp only at e1 e2 e4
    rw [itoa_inj _ _ e1, itoa_inj _ _ e2, e4]
theorem key_split (s : List UInt8) (a b : Nat) (ha : a ≤ s.length) (hb : b ≤ s.length) : (keyL [⟨2, 0, s.take a⟩, ⟨2, 0, s.drop a⟩] = keyL [⟨2, 0, s.take b⟩, ⟨2, 0, s.drop b⟩]) ↔ a = b := by
  constructor
  · intro h
    have := key_inj _ _ h
    simp only [List.cons.injEq, V.mk.injEq, true_and, and_true] at this
    have := congrArg List.length this.1
    simp at this
    omega
  · rintro rfl; rfl
end Go.Proofs.YtfojeajmonnifaaGreatDoor
/- Slices of values that are only read; boxes of values. -/
namespace Go.Proofs.YtfojeajmonnifaaGreatDoor
open Go.ChangeShapes Go.WideShapes Go.ChangeAt Go.RowKit

/-- the value is a slice whose cells hold these values -/
def RdV (w : World) (v : Value) (l : List V) : Prop :=
  ∃ ad cap, v = .slice ad l.length cap ∧ l.length ≤ cap ∧ cap ≤ maxLen ∧ (ad = none → cap = 0) ∧
    ∀ (i : Nat) (h : i < l.length), ∃ g o, ad = some ⟨g, o, none⟩ ∧ w.cell? ⟨g, o + i * 3, none⟩ = some (.int .i64 l[i].k) ∧ w.cell? ⟨g, o + i * 3 + 1, none⟩ = some (.int .i64 l[i].n) ∧ w.cell? ⟨g, o + i * 3 + 2, none⟩ = some (sv l[i].s)
theorem RdV.ext {w w' : World} {v : Value} {l : List V} (h : RdV w v l) (e : Ext w w') : RdV w' v l := by
  obtain ⟨ad, cap, rfl, h1, h2, h3, h4⟩ := h
  refine ⟨ad, cap, rfl, h1, h2, h3, fun i hi => ?_⟩
  obtain ⟨g, o, rfl, c0, c1, c2⟩ := h4 i hi
  exact ⟨g, o, rfl, e.keeps c0, e.keeps c1, e.keeps c2⟩
theorem rdV_nil (w : World) : RdV w (.slice none 0 0) [] := ⟨none, 0, rfl, Nat.le_refl _, Nat.zero_le _, fun _ => rfl, fun i h => by simp at h⟩
/-- the numbers fit their kinds -/
def OkL (l : List V) : Prop := ∀ (i : Nat) (h : i < l.length), -9223372036854775808 ≤ l[i].k ∧ l[i].k ≤ 9223372036854775807 ∧ -9223372036854775808 ≤ l[i].n ∧ l[i].n ≤ 9223372036854775807
/-- a box of a value -/
def Box (w : World) (b : Nat) (v : V) : Prop := w.heap[b]? = some (.cells #[.int .i64 v.k, .int .i64 v.n, sv v.s] 74 (0, 0))
theorem Box.new (w : World) (v : V) : Box (w.alloc (.cells #[.int .i64 v.k, .int .i64 v.n, sv v.s] 74)) w.heap.size v := (MapKept.heap_alloc w _).1
theorem Box.lt {w : World} {b : Nat} {v : V} (h : Box w b v) : b < w.heap.size := (Array.getElem?_eq_some_iff.1 h).1
theorem Box.c0 {w : World} {b : Nat} {v : V} (h : Box w b v) : w.cell? ⟨b, 0, none⟩ = some (.int .i64 v.k) := by unfold Box at h; rw [World.cell?, h]; rfl
theorem Box.c1 {w : World} {b : Nat} {v : V} (h : Box w b v) : w.cell? ⟨b, 1, none⟩ = some (.int .i64 v.n) := by unfold Box at h; rw [World.cell?, h]; rfl
theorem Box.c2 {w : World} {b : Nat} {v : V} (h : Box w b v) : w.cell? ⟨b, 2, none⟩ = some (sv v.s) := by unfold Box at h; rw [World.cell?, h]; rfl
theorem Box.alloc {w : World} {b : Nat} {v : V} (h : Box w b v) (o : Obj) : Box (w.alloc o) b v := by
  have hl := h.lt
  unfold Box at *; rw [Below.heap_alloc _ _ _ hl]; exact h
theorem Box.others {w w' : World} {b : Nat} {v : V} (h : Box w b v) (k : Lib.OthersKept 5 none w w') : Box w' b v :=
  k b _ h (by simp) (fun c fz e => by injection e with _ e; exact absurd e (by decide))
theorem OwnB.ne {W w : World} {v : Value} {l : List UInt8} (hO : OwnB W w v l) {b : Nat} {u : V} (h : Box w b u) : v.ownBlock ≠ some b := by
  rcases hO.1.2 with ⟨rfl, _⟩ | ⟨g, cap, cur, rfl, hb, hg, _⟩
  · simp [Value.ownBlock]
  · intro e
    simp only [Value.ownBlock, Option.some.injEq] at e
    subst e
    unfold Box at h
    rw [hg] at h
    injection h with h
    injection h with _ h
    exact absurd h (by decide)
theorem Box.grow {W w w' : World} {v : Value} {l : List UInt8} {b : Nat} {u : V} (h : Box w b u) (hO : OwnB W w v l) (hg : w.grownBy w' v.ownBlock) : Box w' b u := by
  have hl := h.lt
  have hn := hO.ne h
  unfold Box at *
  rw [hg.block b hl (fun e => hn e.symm)]; exact h
def AiP (W w : World) (l : List UInt8) (i : Int) (e : Ending) (w' : World) : Prop := ∃ v', e = .returned v' ∧ OwnB W w' v' (l ++ Lib.itoa i) ∧ Lib.OthersKept 5 none w w'
theorem ai_call (W w : World) (v : Value) (l : List UInt8) (i : Int) (hO : OwnB W w v l) (hT : PT W) (h0 : -9223372036854775808 ≤ i) (h1 : i ≤ 9223372036854775807) (hlim : l.length + 21 ≤ 140737488355328) :
    Calls Tryz.prog 175 #[v, .int .i64 i, .int .i64 10] w (AiP W w l i) := by
  refine (Tryz.strconv_AppendInt_10 W.heap.size l.length i h0 h1 v (Lib.byteCells l) w hO.1 hO.2.2.2 hlim (hT.below hO.2)).mono ?_
  rintro e w' ⟨v', rfl, ho, hb, hk⟩
  refine ⟨v', rfl, ⟨?_, ext_below hO.2 hb⟩, hk⟩
  rw [bc_app, List.length_append]; exact ho
end Go.Proofs.YtfojeajmonnifaaGreatDoor
/- The program's Key: only the table of powers of ten is asked. -/
namespace Go.Proofs.YtfojeajmonnifaaGreatDoor
open Go.ChangeShapes Go.WideShapes Go.ChangeAt Go.RowKit

theorem ret_sv9 {a b : List UInt8} (h : a = b) : Ending.returned (sv a) = .returned (sv b) := by rw [h]
theorem key_take9 (l : List V) (k : Nat) (h : k < l.length) : keyL (l.take k) ++ Lib.itoa l[k].k ++ [44] ++ Lib.itoa l[k].n ++ [44] ++ Lib.itoa l[k].s.length ++ [58] ++ l[k].s = keyL (l.take (k + 1)) := by
  rw [List.take_succ_eq_append_getElem h, keyL_snoc]
theorem key_le9 (l : List V) (k : Nat) : (keyL (l.take k)).length ≤ (keyL l).length := by
  have := keyL_app (l.take k) (l.drop k)
  rw [List.take_append_drop] at this
  rw [this]; simp
def KyR9 (w : World) (l : List V) (b i : Value) (wr : World) : Prop := ∃ k : Nat, k ≤ l.length ∧ i = .int .i64 k ∧ OwnB w wr b (keyL (l.take k))
set_option maxHeartbeats 4000000 in
set_option maxRecDepth 100000 in
theorem key_pt (l : List V) (v : Value) (w : World) (hG : PT w) (hr : RdV w v l) (hok : OkL l) (hlen : (keyL l).length ≤ 70368744177664) : Calls Tryz.prog 140 #[v] w fun e w' => e = .returned (sv (keyL l)) ∧ Ext w w' := by
  obtain ⟨ad, cap, rfl, h1, h2, h3, h4⟩ := hr
  have H4 := Lib.hid h4
  have HO := Lib.hid hok
  have HG := Lib.hid hG
  clear h3 h4 hok hG
  obtain ⟨n, hn⟩ : ∃ n, n = l.length := ⟨_, rfl⟩
  have HN := Lib.hid hn
  rw [← hn] at h1 ⊢
  clear hn
  unfold maxLen at h2
  go_enter Tryz.func140, Tryz.ntmps140
  go_wp2_with fail
  go_loopw [3, 8] (KyR9 w l) (fun _ i _ => n - (intOf i).toNat)
  case atStart => exact ⟨0, Nat.zero_le _, rfl, OwnB.nil _ _ (Ext.refl _)⟩
  case round =>
    obtain ⟨k, hk, rfl, hO⟩ := hrel
    have hkn : k ≤ n := by rw [HN.out]; exact hk
    have hkl := key_le9 l k
    by_cases hlt : k < n
    · have hlt' : k < l.length := by rw [← HN.out]; exact hlt
      have hst := key_take9 l k hlt'
      have hkl2 := key_le9 l (k + 1)
      obtain ⟨o1, o2, o3, o4⟩ := HO.out k hlt'
      obtain ⟨g, o, rfl, c0', c1', c2'⟩ := H4.out k hlt'
      have c0 := hO.2.keeps c0'
      have c1 := hO.2.keeps c1'
      have c2 := hO.2.keeps c2'
      generalize l[k] = u at *
      obtain ⟨uk, un, us⟩ := u
      simp only at hst c0 c1 c2 o1 o2 o3 o4
      have HS := Lib.hid hst
      have hus : (keyL (l.take k)).length + (Lib.itoa uk).length + (Lib.itoa un).length + (Lib.itoa us.length).length + us.length + 3 ≤ 70368744177664 := by
        have := congrArg List.length hst
        simp only [List.length_append, List.length_cons, List.length_nil] at this
        omega
      clear c0' c1' c2' hst hkl2
      generalize keyL (l.take k) = L at *
      have hb0 := Box.new wr ⟨uk, un, us⟩
      go_wp2_with fail
      refine (ai_call w _ _ L uk (hO.ext ((Ext.refl _).alloc _ _)) HG.out o1 o2 (by omega)).mono ?_; rintro e x1 ⟨v1, rfl, hO1, hk1⟩
      have hb1 := hb0.others hk1
      go_wp2_with (at_builtin; refine appB rfl _ _ rfl w _ _ rfl (hO1.ext ((Ext.refl _).alloc _ _)) _ [44] rfl (rdB_lit x1 44 44 rfl _ rfl) (by simp only [List.length_append, List.length_cons, List.length_nil]; omega) ?_; intro v2 x2 hO2 hg2; have hb2 := (hb1.alloc _).grow (hO1.ext ((Ext.refl _).alloc _ _)) hg2; have q2 := hb2.c1)
      refine (ai_call w x2 v2 _ un hO2 HG.out o3 o4 (by simp only [List.length_append, List.length_cons, List.length_nil]; omega)).mono ?_; rintro e x3 ⟨v3, rfl, hO3, hk3⟩
      have hb3 := hb2.others hk3
      clear q2
      go_wp2_with (at_builtin; refine appB rfl _ _ rfl w _ _ rfl (hO3.ext ((Ext.refl _).alloc _ _)) _ [44] rfl (rdB_lit x3 44 44 rfl _ rfl) (by simp only [List.length_append, List.length_cons, List.length_nil]; omega) ?_; intro v4 x4 hO4 hg4; have hb4 := (hb3.alloc _).grow (hO3.ext ((Ext.refl _).alloc _ _)) hg4; have q4 := hb4.c2)
      refine (ai_call w x4 v4 _ (us.length : Int) hO4 HG.out (by omega) (by omega) (by simp only [List.length_append, List.length_cons, List.length_nil]; omega)).mono ?_; rintro e x5 ⟨v5, rfl, hO5, hk5⟩
      have hb5 := hb4.others hk5
      clear q4
      go_wp2_with (first
        | (at_builtin; refine appB rfl _ _ rfl w _ _ rfl (hO5.ext ((Ext.refl _).alloc _ _)) _ [58] rfl (rdB_lit x5 58 58 rfl _ rfl) (by simp only [List.length_append, List.length_cons, List.length_nil]; omega) ?_; intro v6 x6 hO6 hg6; have hb6 := (hb5.alloc _).grow (hO5.ext ((Ext.refl _).alloc _ _)) hg6; have q6 := hb6.c2)
        | (at_builtin; refine appS rfl _ _ rfl w _ _ rfl hO6 us rfl (by simp only [List.length_append, List.length_cons, List.length_nil]; omega) ?_; intro v7 x7 hO7 hg7))
      go_roundw
      case rel => exact ⟨k + 1, hlt', by go_num, HS.out ▸ hO7⟩
      case measure => simp [intOf]; omega
    · have HR := Lib.hid (show keyL (l.take k) = keyL l by rw [List.take_of_length_le (by have := HN.out; omega)])
      have cv := hO.rd.text
      go_wp2_with fail
      go_ret
      exact ⟨ret_sv9 HR.out, hO.2⟩
end Go.Proofs.YtfojeajmonnifaaGreatDoor
