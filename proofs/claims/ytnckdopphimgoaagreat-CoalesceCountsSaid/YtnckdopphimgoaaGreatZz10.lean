/- The reference's MergeLineage: two lists of numbers merged into one ascending list. -/
import Derived.Test.YtnckdopphimgoaaGreatZz03
import Derived.Test.YtnckdopphimgoaaGreatZz08
namespace Go.Proofs.YtnckdopphimgoaaGreat
open Go.ChangeShapes Go.WideShapes Go.ChangeAt Go.RowKit

theorem ins_asc (cs : List Int) (x : Int) (k : Nat) (ha : Asc cs) (hlo : ∀ c ∈ cs.take k, c < x) (hhi : ∀ c ∈ cs.drop k, x < c) : Asc (cs.take k ++ [x] ++ cs.drop k) := by
  unfold Asc at *
  rw [← List.take_append_drop k cs] at ha
  obtain ⟨h1, h2, h3⟩ := List.pairwise_append.1 ha
  refine List.pairwise_append.2 ⟨List.pairwise_append.2 ⟨h1, List.pairwise_singleton _ _, fun a hA b hB => ?_⟩, h2, fun a hA b hB => ?_⟩
  · rw [List.mem_singleton.1 hB]; exact hlo a hA
  · rcases List.mem_append.1 hA with h | h
    · exact h3 a h b hB
    · rw [List.mem_singleton.1 h]; exact hhi b hB
theorem ins_mem (cs : List Int) (x : Int) (k : Nat) (c : Int) : c ∈ cs.take k ++ [x] ++ cs.drop k ↔ c ∈ cs ∨ c = x := by
  have : c ∈ cs ↔ c ∈ cs.take k ∨ c ∈ cs.drop k := by rw [← List.mem_append, List.take_append_drop]
  rw [this, List.mem_append, List.mem_append, List.mem_singleton]
  constructor
  · rintro ((h | h) | h)
    · exact .inl (.inl h)
    · exact .inr h
    · exact .inl (.inr h)
  · rintro ((h | h) | h)
    · exact .inl (.inl h)
    · exact .inr h
    · exact .inl (.inr h)
theorem lo_stepI {cs : List Int} {k : Nat} {x : Int} (h : ∀ c ∈ cs.take k, c < x) (hk : k < cs.length) (e : cs[k] < x) : ∀ c ∈ cs.take (k + 1), c < x := by
  intro c hc
  rw [List.take_add_one, List.getElem?_eq_getElem hk] at hc
  rcases List.mem_append.1 hc with h1 | h1
  · exact h c h1
  · simp at h1; rw [h1]; exact e
theorem hi_of {cs : List Int} {k : Nat} {x : Int} (ha : Asc cs) (hk : k < cs.length) (e : x < cs[k]) : ∀ c ∈ cs.drop k, x < c := by
  intro c hc
  rw [List.drop_eq_getElem_cons hk] at hc
  have hp : Asc (cs.drop k) := List.Pairwise.sublist (List.drop_sublist _ _) ha
  rw [List.drop_eq_getElem_cons hk] at hp
  rcases List.mem_cons.1 hc with h | h
  · rw [h]; exact e
  · have := (List.pairwise_cons.1 hp).1 c h; omega
theorem RdG.dropI {w : World} {g n cap i : Nat} {s : List Int} (h : RdG w (.slice (some ⟨g, 0, none⟩) n cap) s) (hi : i ≤ n) :
    RdG w (.slice (if cap = i then some ⟨g, 0, none⟩ else some ⟨g, i, none⟩) (n - i) (cap - i)) (s.drop i) := by
  obtain ⟨ad, cap', e, h1, h2, h3, h4⟩ := h
  simp only [Value.slice.injEq] at e
  obtain ⟨rfl, rfl, rfl⟩ := e
  by_cases c : cap = i
  · rw [if_pos c]
    refine ⟨_, cap - i, by rw [List.length_drop], by rw [List.length_drop]; omega, by omega, (fun e => by cases e), fun j hj => ?_⟩
    rw [List.length_drop] at hj; omega
  · rw [if_neg c]
    refine ⟨_, cap - i, by rw [List.length_drop], by rw [List.length_drop]; omega, by omega, (fun e => by cases e), fun j hj => ?_⟩
    rw [List.length_drop] at hj
    obtain ⟨g', o', e, d⟩ := h4 (i + j) (by omega)
    simp only [Option.some.injEq, Addr.mk.injEq, and_true] at e
    obtain ⟨rfl, rfl⟩ := e
    refine ⟨g, i, rfl, fun jj u hu => ?_⟩
    have := d jj u (by rw [List.getElem_drop] at hu; exact hu)
    have e1 : Enc.sz Int = 1 := rfl
    rw [e1] at this ⊢
    rw [show i + j * 1 + jj = 0 + (i + j) * 1 + jj by omega]; exact this
def MlP (a b : List Int) (w : World) (e : Ending) (w' : World) : Prop := ∃ v cs, e = .returned v ∧ OwnG tI.e w w' v cs ∧ Asc cs ∧ (∀ c, c ∈ cs ↔ c ∈ a ∨ c ∈ b) ∧ cs.length ≤ a.length + b.length
def M1R (W : World) (a b : List Int) (v i : Value) (wr : World) : Prop := ∃ (t : Nat) (cs : List Int), t ≤ 2 ∧ i = .int .i64 t ∧ OwnG tI.e W wr v cs ∧ Asc cs ∧ (∀ c, c ∈ cs ↔ (1 ≤ t ∧ c ∈ a) ∨ (2 ≤ t ∧ c ∈ b)) ∧ cs.length ≤ (if 1 ≤ t then a.length else 0) + (if 2 ≤ t then b.length else 0)
def M2R (W : World) (base l : List Int) (v i : Value) (wr : World) : Prop := ∃ (t : Nat) (cs : List Int), t ≤ l.length ∧ i = .int .i64 t ∧ OwnG tI.e W wr v cs ∧ Asc cs ∧ (∀ c, c ∈ cs ↔ c ∈ base ∨ c ∈ l.take t) ∧ cs.length ≤ base.length + t
theorem mem_take_succ (l : List Int) (t : Nat) (h : t < l.length) (c : Int) : c ∈ l.take (t + 1) ↔ c ∈ l.take t ∨ c = l[t] := by
  rw [List.take_add_one, List.getElem?_eq_getElem h]; simp only [List.mem_append, Option.toList, List.mem_singleton]
theorem own_cases {W w : World} {v : Value} {l : List Int} (h : OwnG tI.e W w v l) : (v = .slice none 0 0 ∧ l = []) ∨ ∃ g cap, v = .slice (some ⟨g, 0, none⟩) l.length cap ∧ l.length ≤ cap ∧ cap ≤ maxLen := by
  rcases h.1.2 with ⟨h1, h2⟩ | ⟨g, cap, cur, h1, h2, h3, h4, h5, _⟩
  · exact .inl ⟨h1, List.eq_nil_of_length_eq_zero h2⟩
  · exact .inr ⟨g, cap, h1, h4, h5⟩
end Go.Proofs.YtnckdopphimgoaaGreat
