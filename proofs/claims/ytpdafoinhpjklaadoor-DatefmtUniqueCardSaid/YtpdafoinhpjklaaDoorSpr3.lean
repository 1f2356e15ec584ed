/- The contract of the reference's ParsePeriod, at every string. -/
import Derived.Test.YtpdafoinhpjklaaDoorSpr2
namespace Go.Proofs.YtpdafoinhpjklaaDoor
open Go.ChangeShapes Go.WideShapes Go.ChangeAt Go.RowKit

theorem pper_ref (l f g : List UInt8) (w : World) (hl : l.length ≤ maxLen) (h : isPer l f g) :
    Calls Tryd.prog 17 #[sv l] w fun e w' => e = .returned (.tuple #[pv (Cal.ppA f g) (Cal.ppB f g), .int .i64 (Cal.ppE f g)]) ∧ Ext w w' := by
  obtain ⟨rfl, h1, h2⟩ := h
  exact pper_ref_in f (44 :: 32 :: g) _ _ _ w (by simpa using hl) (by simp; omega) h1 (Or.inr (Or.inr (Or.inr (Or.inr ⟨g, rfl, h2, rfl, rfl, rfl⟩))))
theorem pper_ref_bad (l : List UInt8) (w : World) (hl : l.length ≤ maxLen) (h : ∀ f g, ¬ isPer l f g) :
    Calls Tryd.prog 17 #[sv l] w fun e w' => e = .returned (.tuple #[pv 0 0, .int .i64 5]) ∧ Ext w w' := by
  by_cases h4 : l.length < 4
  · exact pper_ref_r1 l w h4
  · cases l with
    | nil => exact absurd (by simp) h4
    | cons x t =>
      simp only [List.length_cons] at hl h4
      by_cases hx : x = 91
      · subst hx
        rcases List.eq_nil_or_concat t with rfl | ⟨m, y, rfl⟩
        · simp at h4
        · simp only [List.concat_eq_append, List.length_append, List.length_cons, List.length_nil] at hl h4 h ⊢
          by_cases hy : y = 41
          · subst hy
            by_cases h44 : (44 : UInt8) ∈ m
            · obtain ⟨f, r, rfl, hf⟩ := first_of _ _ h44
              have go : ∀ r', r' = r → inRes f (44 :: r') 0 0 5 → Calls Tryd.prog 17 #[sv (91 :: (f ++ 44 :: r ++ [41]))] w fun e w' => e = .returned (.tuple #[pv 0 0, .int .i64 5]) ∧ Ext w w' := by
                rintro r' rfl hr
                have := pper_ref_in f (44 :: r') 0 0 5 w (by simp at hl ⊢; omega) (by simp at h4 ⊢; omega) hf hr
                rwa [show 91 :: (f ++ (44 :: r' ++ [41])) = 91 :: (f ++ 44 :: r' ++ [41]) by simp] at this
              cases r with
              | nil => exact go [] rfl (Or.inr (Or.inl ⟨rfl, rfl, rfl, rfl⟩))
              | cons z g =>
                by_cases hz : z = 32
                · subst hz
                  by_cases h41 : (41 : UInt8) ∈ g
                  · obtain ⟨g', u, rfl, hg⟩ := first_of _ _ h41
                    exact go _ rfl (Or.inr (Or.inr (Or.inr (Or.inl ⟨g', u, rfl, hg, rfl, rfl, rfl⟩))))
                  · exact absurd ⟨by simp, hf, h41⟩ (h f g)
                · exact go _ rfl (Or.inr (Or.inr (Or.inl ⟨z, g, rfl, hz, rfl, rfl, rfl⟩)))
            · have := pper_ref_in m [] 0 0 5 w (by simp; omega) (by simp; omega) h44 (Or.inl ⟨rfl, rfl, rfl, rfl⟩)
              rwa [show m ++ ([] ++ [41]) = m ++ [41] by simp] at this
          · exact pper_ref_r3 m y w (by omega) (by omega) hy
      · exact pper_ref_r2 x t w hl (by omega) hx
theorem no_both {l f g : List UInt8} (h : noPer l) : ¬ isPer l f g := by
  rintro ⟨rfl, h1, h2⟩
  have key : ∀ {c : UInt8} {a b a' b' : List UInt8}, c ∉ a → c ∉ a' → a ++ c :: b = a' ++ c :: b' → a = a' ∧ b = b' := by
    intro c a
    induction a with
    | nil =>
      intro b a' b' _ hn e
      cases a' with
      | nil => simpa using e
      | cons y ys => simp at e; exact absurd (by rw [e.1]; exact List.mem_cons_self ..) hn
    | cons x xs ih =>
      intro b a' b' hm hn e
      cases a' with
      | nil => simp at e; exact absurd (by rw [← e.1]; exact List.mem_cons_self ..) hm
      | cons y ys =>
        simp at e
        obtain ⟨i1, i2⟩ := ih (fun q => hm (List.mem_cons_of_mem _ q)) (fun q => hn (List.mem_cons_of_mem _ q)) e.2
        exact ⟨by rw [e.1, i1], i2⟩
  rcases h with h | ⟨t, e, h⟩ | ⟨f', r, e, h3, h4⟩ | ⟨f', r, e, h3, h4⟩ | ⟨f', g', t, e, h3, h4, h5⟩
  · exact h _ rfl
  · simp only [List.cons.injEq, true_and] at e; rw [← e] at h; exact h (by simp)
  · simp only [List.cons.injEq, true_and] at e
    obtain ⟨_, e2⟩ := key h1 h3 e
    exact h4 _ e2.symm
  · simp only [List.cons.injEq, true_and] at e
    obtain ⟨_, e2⟩ := key h1 h3 e
    simp only [List.cons.injEq, true_and] at e2
    rw [← e2] at h4; exact h4 (by simp)
  · simp only [List.cons.injEq, true_and] at e
    obtain ⟨_, e2⟩ := key h1 h3 e
    simp only [List.cons.injEq, true_and] at e2
    obtain ⟨_, e3⟩ := key h2 h4 e2
    rw [← e3] at h5; simp at h5
end Go.Proofs.YtpdafoinhpjklaaDoor
