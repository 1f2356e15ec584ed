/- The program's merge: in plain lists, and walked. -/
import Derived.Test.YtnckdopphimgoaaGreatZz05
import Derived.Test.YtnckdopphimgoaaGreatZz09
namespace Go.Proofs.YtnckdopphimgoaaGreat
open Go.ChangeShapes Go.WideShapes Go.ChangeAt Go.RowKit

/-- valid periods, ordered by their starts -/
def SV (L : List (Int × Int)) : Prop := (∀ p ∈ L, 0 ≤ p.1 ∧ p.1 < p.2 ∧ p.2 ≤ 1099511627776) ∧ L.Pairwise fun p q => p.1 ≤ q.1
/-- the row that is merged, behind k periods -/
def MInv (L : List (Int × Int)) (k : Nat) (m : List (Int × Int)) : Prop := NF m ∧ (∀ t, memB m t = memB (L.take k) t) ∧ ∀ q ∈ m, ∀ r ∈ L.drop k, q.1 ≤ r.1
theorem MInv.start (L : List (Int × Int)) : MInv L 0 [] := ⟨NF.nil, fun _ => rfl, fun _ hq => absurd hq List.not_mem_nil⟩
theorem memB_take {l : List (Int × Int)} {t : Int} {k : Nat} (h : k < l.length) : memB (l.take (k + 1)) t = (memB (l.take k) t || incB l[k].1 l[k].2 t) := by
  rw [List.take_succ_eq_append_getElem h, memB_append]; simp [memB]
theorem drop_at {L : List (Int × Int)} {k : Nat} (h : k < L.length) : L.drop k = L[k] :: L.drop (k + 1) := List.drop_eq_getElem_cons h
theorem sv_drop {L : List (Int × Int)} {k : Nat} (hS : SV L) (h : k < L.length) : ∀ r ∈ L.drop (k + 1), L[k].1 ≤ r.1 := by
  have := hS.2.sublist (List.drop_sublist k L)
  rw [drop_at h] at this
  exact (List.pairwise_cons.1 this).1
theorem MInv.more {L : List (Int × Int)} {k : Nat} {m : List (Int × Int)} {x y : Int} (hS : SV L) (h : MInv L k m) (hk : k < L.length) (e : L[k] = (x, y)) (hg : ∀ q ∈ m, q.2 < x) : MInv L (k + 1) (m ++ [(x, y)]) := by
  have hv := hS.1 L[k] (List.getElem_mem _)
  rw [e] at hv
  refine ⟨h.1.snoc hv hg, fun t => ?_, fun q hq r hr => ?_⟩
  · rw [memB_append, h.2.1, memB_take hk, e]; simp [memB]
  · rcases List.mem_append.1 hq with hq | hq
    · exact h.2.2 q hq r (by rw [drop_at hk]; exact List.mem_cons_of_mem _ hr)
    · simp at hq; subst hq
      have := sv_drop hS hk r hr
      rw [e] at this; exact this
theorem MInv.join {L : List (Int × Int)} {k : Nat} {m : List (Int × Int)} {a b c x y : Int} (hS : SV L) (h : MInv L k (m ++ [(a, b)])) (hk : k < L.length) (e : L[k] = (x, y)) (hg : x ≤ b) (hc : b ≤ c ∧ y ≤ c ∧ (c = b ∨ c = y)) : MInv L (k + 1) (m ++ [(a, c)]) := by
  have hv := hS.1 L[k] (List.getElem_mem _)
  rw [e] at hv
  have hab := h.1.1 (a, b) (by simp)
  have hax := h.2.2 (a, b) (by simp) (x, y) (by rw [drop_at hk, e]; exact List.mem_cons_self)
  simp only at hv hab hax
  have hm : NF m := h.1.sub (List.sublist_append_left _ _)
  refine ⟨hm.snoc (by omega) (fun p hp => by have := h.1.before hp (q := (a, b)) (by simp); exact this), fun t => ?_, fun q hq r hr => ?_⟩
  · rw [memB_take hk, e, ← h.2.1, memB_append, memB_append, Bool.or_assoc]
    congr 1
    rw [Bool.eq_iff_iff]
    simp only [memB_cons, memB_nil, Bool.or_false, Bool.or_eq_true, incB_yes]
    omega
  · have hr' : r ∈ L.drop k := by rw [drop_at hk]; exact List.mem_cons_of_mem _ hr
    rcases List.mem_append.1 hq with hq | hq
    · exact h.2.2 q (List.mem_append_left _ hq) r hr'
    · simp at hq; subst hq
      exact h.2.2 (a, b) (by simp) r hr'
theorem cellsL_set (m : List (Int × Int)) (a b c : Int) : (cellsL (m ++ [(a, b)])).set (m.length * 2 + 1) (.int .i64 c) = cellsL (m ++ [(a, c)]) := by
  rw [cellsL_append, cellsL_append, List.set_append_right _ _ (by rw [cellsL_len]; omega), cellsL_len, show m.length * 2 + 1 - m.length * 2 = 1 by omega]
  rfl
/-- the cells of the last period of a row of one's own -/
theorem Own.last {W w : World} {v : Value} {m : List (Int × Int)} {a b : Int} (h : Own W w v (m ++ [(a, b)])) : ∃ g cap, v = .slice (some ⟨g, 0, none⟩) (m.length + 1) cap ∧ W.heap.size ≤ g ∧ g < w.heap.size ∧
    w.cell? ⟨g, m.length * 2, none⟩ = some (.int .i64 a) ∧ w.cell? ⟨g, m.length * 2 + 1, none⟩ = some (.int .i64 b) ∧ (∀ j, w.frozen? ⟨g, j, none⟩ = false) := by
  have ho := h.1
  have hl : (m ++ [(a, b)]).length = m.length + 1 := by simp
  have hx := cellsL_at (m ++ [(a, b)]) m.length (by omega)
  rw [List.getElem_append_right (Nat.le_refl _)] at hx
  simp only [Nat.sub_self, List.getElem_cons_zero] at hx
  rw [hl] at ho
  rcases ho.2 with ⟨_, h0⟩ | ⟨g, cap, cur, rfl, hb, hg, hc, hm, hs, ht⟩
  · omega
  · refine ⟨g, cap, rfl, hb, (Array.getElem?_eq_some_iff.1 hg).1, ?_, ?_, fun j => ho.frozenAt j⟩
    · rw [ho.cellAt _ (by omega)]; exact hx.1
    · rw [ho.cellAt _ (by omega)]; exact hx.2
theorem Own.put {W w : World} {g cap : Nat} {m : List (Int × Int)} {a b : Int} (c : Int) (h : Own W w (.slice (some ⟨g, 0, none⟩) (m.length + 1) cap) (m ++ [(a, b)])) :
    Own W (w.setCell ⟨g, m.length * 2 + 1, none⟩ (.int .i64 c)) (.slice (some ⟨g, 0, none⟩) (m.length + 1) cap) (m ++ [(a, c)]) := by
  have ho := h.1
  rw [show (m ++ [(a, b)]).length = m.length + 1 by simp] at ho
  obtain ⟨h1, h2⟩ := ho.stored (m.length * 2 + 1) (.int .i64 c)
  rw [cellsL_set] at h1
  refine h.grow h2 ?_
  rw [show (m ++ [(a, c)]).length = m.length + 1 by simp]; exact h1
theorem Own.drewN {W w : World} {v : Value} {l : List (Int × Int)} (h : Own W w v l) (n : Nat) : Own W (w.drewN n) v l := h
/-- a set of points, returned «as» a row in normal form -/
def SetPost (P : Int → Bool) (w : World) (e : Ending) (w' : World) : Prop := ∃ v l, e = .returned v ∧ NF l ∧ (∀ t, memB l t = P t) ∧ w'.ownsRow 0 40 2 v l.length (cellsL l) ∧ Ext w w'
def SetPostN (P : Int → Bool) (w : World) (e : Ending) (w' : World) : Prop := ∃ v l, e = .returned v ∧ NF l ∧ (∀ t, memB l t = P t) ∧ w'.ownsRow w.heap.size 40 2 v l.length (cellsL l) ∧ Ext w w'
theorem owns_low {w : World} {base b0 : Nat} {e : TypeId} {size : Nat} {v : Value} {n : Nat} {xs : List Value} (ho : w.ownsRow base e size v n xs) (hb : b0 ≤ base) : w.ownsRow b0 e size v n xs := by
  obtain ⟨h1, h2⟩ := ho
  refine ⟨h1, ?_⟩
  rcases h2 with h2 | ⟨g, cap, cur, hv, hg, hh, r⟩
  · exact Or.inl h2
  · exact Or.inr ⟨g, cap, cur, hv, Nat.le_trans hb hg, hh, r⟩
end Go.Proofs.YtnckdopphimgoaaGreat
/- The reference's insert, in plain lists. -/
namespace Go.Proofs.YtnckdopphimgoaaGreat

/-- [x, y) has taken in the periods from j to i -/
structure JInv (s : List (Int × Int)) (x y : Int) (j i : Nat) (x' y' : Int) : Prop where
  le : j ≤ i
  val : 0 ≤ x' ∧ x' < y' ∧ y' ≤ 1099511627776
  lo : ∀ q ∈ s.take j, q.2 < x'
  hi : ∀ q ∈ s.drop i, x' ≤ q.2
  mem : ∀ t, (memB (s.take j) t || incB x' y' t || memB (s.drop i) t) = (memB s t || incB x y t)
theorem JInv.start {s : List (Int × Int)} {x y : Int} {j : Nat} (hs : NF s) (hv : 0 ≤ x ∧ x < y ∧ y ≤ 1099511627776) (hlo : ∀ q ∈ s.take j, q.2 < x) (hend : ∀ h : j < s.length, x ≤ s[j].2) : JInv s x y j j x y := by
  refine ⟨Nat.le_refl _, hv, hlo, fun q hq => ?_, fun t => ?_⟩
  · by_cases h : j < s.length
    · have hd : NF (s[j] :: s.drop (j + 1)) := by have := hs.drop j; rwa [drop_at h] at this
      rw [drop_at h] at hq
      have he := hend h
      rcases List.mem_cons.1 hq with rfl | hq
      · exact he
      · have h1 := hd.gap q hq
        have h2 := hd.tail.1 q hq
        omega
    · rw [List.drop_eq_nil_of_le (by omega)] at hq; exact absurd hq List.not_mem_nil
  · have e : memB s t = (memB (s.take j) t || memB (s.drop j) t) := by rw [← memB_append, List.take_append_drop]
    rw [e]
    cases memB (s.take j) t <;> cases incB x y t <;> cases memB (s.drop j) t <;> rfl
theorem JInv.step {s : List (Int × Int)} {x y x' y' a b c d : Int} {j i : Nat} (hs : NF s) (h : JInv s x y j i x' y') (hi : i < s.length) (e : s[i] = (a, b)) (hle : a ≤ y')
    (hc : c ≤ x' ∧ c ≤ a ∧ (c = x' ∨ c = a)) (hd : y' ≤ d ∧ b ≤ d ∧ (d = y' ∨ d = b)) : JInv s x y j (i + 1) c d := by
  have hab := hs.1 s[i] (List.getElem_mem _)
  have hxb := h.hi s[i] (by rw [drop_at hi]; exact List.mem_cons_self)
  rw [e] at hab hxb
  have hv := h.val
  have hl := h.le
  simp only at hab hxb
  refine ⟨by omega, by omega, fun q hq => ?_, fun q hq => ?_, fun t => ?_⟩
  · have h1 := h.lo q hq
    have h2 : q.2 < a := by
      have hb : NF (s.take j ++ s.drop j) := by rw [List.take_append_drop]; exact hs
      have hm : s[i] ∈ s.drop j := by
        rw [List.mem_drop_iff_getElem]
        exact ⟨i - j, by omega, by congr 1; omega⟩
      have := hb.before hq hm
      rw [e] at this; exact this
    omega
  · have := h.hi q (by rw [drop_at hi]; exact List.mem_cons_of_mem _ hq)
    omega
  · rw [← h.mem t, drop_at hi, memB_cons, e]
    have : incB c d t = (incB x' y' t || incB a b t) := by
      rw [Bool.eq_iff_iff, Bool.or_eq_true, incB_yes, incB_yes, incB_yes]
      omega
    simp only
    rw [this]
    cases memB (s.take j) t <;> cases incB x' y' t <;> cases incB a b t <;> cases memB (s.drop (i + 1)) t <;> rfl
theorem JInv.done {s : List (Int × Int)} {x y x' y' : Int} {j i : Nat} (hs : NF s) (h : JInv s x y j i x' y') (hend : ∀ h : i < s.length, y' < s[i].1) :
    NF (s.take j ++ [(x', y')] ++ s.drop i) ∧ ∀ t, memB (s.take j ++ [(x', y')] ++ s.drop i) t = (memB s t || incB x y t) := by
  have hd : ∀ q ∈ s.drop i, y' < q.1 := by
    intro q hq
    by_cases hi : i < s.length
    · have hd : NF (s[i] :: s.drop (i + 1)) := by have := hs.drop i; rwa [drop_at hi] at this
      have he := hend hi
      have hv := hd.head
      rw [drop_at hi] at hq
      rcases List.mem_cons.1 hq with rfl | hq
      · exact he
      · have h1 := hd.gap q hq
        omega
    · rw [List.drop_eq_nil_of_le (by omega)] at hq; exact absurd hq List.not_mem_nil
  have hv := h.val
  refine ⟨((hs.take j).snoc hv h.lo).append (hs.drop i) (fun p hp q hq => ?_), fun t => ?_⟩
  · have h1 := hd q hq
    rcases List.mem_append.1 hp with hp | hp
    · have := h.lo p hp; omega
    · simp at hp; subst hp; exact h1
  · rw [← h.mem t, memB_append, memB_append, memB_cons, memB_nil, Bool.or_false]
end Go.Proofs.YtnckdopphimgoaaGreat
