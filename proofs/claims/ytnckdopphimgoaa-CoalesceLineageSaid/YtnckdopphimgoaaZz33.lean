/- Clones of slices; the program's comparison of slices of rows. -/
import Derived.Lib.SliceRun
import Derived.Test.YtnckdopphimgoaaZz20
namespace Go.Proofs.Ytnckdopphimgoaa
open Go.ChangeShapes Go.WideShapes Go.ChangeAt Go.RowKit

set_option maxHeartbeats 1000000 in
set_option maxRecDepth 100000 in
theorem clone_V (l : List V) (v : Value) (w : World) (h : RdG w v l) (hl : l.length ≤ 1000000) :
    Calls Try.prog 30 #[v] w fun e w' => ∃ v', e = .returned v' ∧ OwnG tV.e w w' v' l := by
  have q : ∀ (w : World) (a : Option Addr) (n c n' c' : Nat), (binOp .eql 26 (.slice a n c) (.slice none n' c')).run Try.prog w = .ok (.bool a.isNone) w := fun w a n c n' c' => Lib.run_eql_slice_nil w _ _ a n c n' c' Try.underlying26
  obtain ⟨ad, cap, rfl, h1, h2, h3, _⟩ := id h
  unfold maxLen at h2
  have H := Lib.hid h
  have HL := Lib.hid hl
  clear h hl
  cases ad with
  | none =>
    obtain rfl := h3 rfl
    have hn : l = [] := List.eq_nil_of_length_eq_zero (by omega)
    subst hn
    clear h3 h1 h2
    go_enter Try.func30, Try.ntmps30
    go_wp2_with fail
    go_ret
    exact ⟨_, rfl, OwnG.nil _ _ _ (Ext.refl _)⟩
  | some ad =>
    obtain ⟨n, hn⟩ : ∃ n, n = l.length := ⟨_, rfl⟩
    have HN := Lib.hid hn
    rw [← hn] at H h1 ⊢
    clear hn h3
    go_enter Try.func30, Try.ntmps30
    go_wp2_with (at_builtin; refine appG tV rfl _ _ rfl w _ [] rfl (own_lit0 _ (Ext.refl _) _ rfl) _ l rfl (by rw [HN.out] at H; first | exact H.out.ext ((Ext.refl _).alloc _ _) | (rw [HN.out]; exact H.out.ext ((Ext.refl _).alloc _ _))) (by have := HL.out; simp; omega) ?_; intro v' w' hO' hg')
    go_ret
    exact ⟨_, rfl, by simpa using hO'⟩
set_option maxHeartbeats 1000000 in
set_option maxRecDepth 100000 in
theorem clone_I (l : List Int) (v : Value) (w : World) (h : RdG w v l) (hl : l.length ≤ 1000000) :
    Calls Try.prog 31 #[v] w fun e w' => ∃ v', e = .returned v' ∧ OwnG tI.e w w' v' l := by
  have q : ∀ (w : World) (a : Option Addr) (n c n' c' : Nat), (binOp .eql 29 (.slice a n c) (.slice none n' c')).run Try.prog w = .ok (.bool a.isNone) w := fun w a n c n' c' => Lib.run_eql_slice_nil w _ _ a n c n' c' Try.underlying29
  obtain ⟨ad, cap, rfl, h1, h2, h3, _⟩ := id h
  unfold maxLen at h2
  have H := Lib.hid h
  have HL := Lib.hid hl
  clear h hl
  cases ad with
  | none =>
    obtain rfl := h3 rfl
    have hn : l = [] := List.eq_nil_of_length_eq_zero (by omega)
    subst hn
    clear h3 h1 h2
    go_enter Try.func31, Try.ntmps31
    go_wp2_with fail
    go_ret
    exact ⟨_, rfl, OwnG.nil _ _ _ (Ext.refl _)⟩
  | some ad =>
    obtain ⟨n, hn⟩ : ∃ n, n = l.length := ⟨_, rfl⟩
    have HN := Lib.hid hn
    rw [← hn] at H h1 ⊢
    clear hn h3
    go_enter Try.func31, Try.ntmps31
    go_wp2_with (at_builtin; refine appG tI rfl _ _ rfl w _ [] rfl (own_lit0 _ (Ext.refl _) _ rfl) _ l rfl (by rw [HN.out] at H; first | exact H.out.ext ((Ext.refl _).alloc _ _) | (rw [HN.out]; exact H.out.ext ((Ext.refl _).alloc _ _))) (by have := HL.out; simp; omega) ?_; intro v' w' hO' hg')
    go_ret
    exact ⟨_, rfl, by simpa using hO'⟩
end Go.Proofs.Ytnckdopphimgoaa
