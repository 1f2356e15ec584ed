/- The program's Key. -/
import Derived.Test.YtejgmiljjpgbpaaDoorRv
namespace Go.Proofs.YtejgmiljjpgbpaaDoor
open Go.ChangeShapes Go.WideShapes Go.ChangeAt Go.RowKit

theorem key_take (l : List V) (k : Nat) (h : k < l.length) : keyL (l.take k) ++ Lib.itoa l[k].k ++ [44] ++ Lib.itoa l[k].n ++ [44] ++ Lib.itoa l[k].s.length ++ [58] ++ l[k].s = keyL (l.take (k + 1)) := by
  rw [List.take_succ_eq_append_getElem h, keyL_snoc]
theorem key_le (l : List V) (k : Nat) : (keyL (l.take k)).length ≤ (keyL l).length := by
  have := keyL_app (l.take k) (l.drop k)
  rw [List.take_append_drop] at this
  rw [this]; simp
def KyR (w : World) (l : List V) (b i : Value) (wr : World) : Prop := ∃ k : Nat, k ≤ l.length ∧ i = .int .i64 k ∧ OwnB w wr b (keyL (l.take k))
set_option maxHeartbeats 4000000 in
set_option maxRecDepth 100000 in
theorem key_val (l : List V) (v : Value) (w : World) (hG : GE w) (hr : RdV w v l) (hok : OkL l) (hlen : (keyL l).length ≤ 70368744177664) : Calls Tryd.prog 22 #[v] w fun e w' => e = .returned (sv (keyL l)) ∧ Ext w w' := by
  obtain ⟨ad, cap, rfl, h1, h2, h3, h4⟩ := hr
  have H4 := Lib.hid h4
  have HO := Lib.hid hok
  have HG := Lib.hid hG
  clear h3 h4 hok hG
  obtain ⟨n, hn⟩ : ∃ n, n = l.length := ⟨_, rfl⟩
  have HN := Lib.hid hn
  rw [← hn] at h1 ⊢
  clear hn
  unfold maxLen at h2
  go_enter Tryd.func22, Tryd.ntmps22
  go_wp2_with fail
  go_loopw [3, 8] (KyR w l) (fun _ i _ => n - (intOf i).toNat)
  case atStart => exact ⟨0, Nat.zero_le _, rfl, OwnB.nil _ _ (Ext.refl _)⟩
  case round =>
    obtain ⟨k, hk, rfl, hO⟩ := hrel
    have hkn : k ≤ n := by rw [HN.out]; exact hk
    have hkl := key_le l k
    by_cases hlt : k < n
    · have hlt' : k < l.length := by rw [← HN.out]; exact hlt
      have hst := key_take l k hlt'
      have hkl2 := key_le l (k + 1)
      obtain ⟨o1, o2, o3, o4⟩ := HO.out k hlt'
      obtain ⟨g, o, rfl, c0', c1', c2'⟩ := H4.out k hlt'
      have c0 := hO.2.keeps c0'
      have c1 := hO.2.keeps c1'
      have c2 := hO.2.keeps c2'
      generalize l[k] = u at *
      obtain ⟨uk, un, us⟩ := u
      simp only at hst c0 c1 c2 o1 o2 o3 o4
      have HS := Lib.hid hst
      have hus : (keyL (l.take k)).length + (Lib.itoa uk).length + (Lib.itoa un).length + (Lib.itoa us.length).length + us.length + 3 ≤ 70368744177664 := by
        have := congrArg List.length hst
        simp only [List.length_append, List.length_cons, List.length_nil] at this
        omega
      clear c0' c1' c2' hst hkl2
      generalize keyL (l.take k) = L at *
      have hb0 := Box.new wr ⟨uk, un, us⟩
      go_wp2_with fail
      refine (ai_call w _ _ L uk (hO.ext ((Ext.refl _).alloc _ _)) HG.out.1 o1 o2 (by omega)).mono ?_; rintro e x1 ⟨v1, rfl, hO1, hk1⟩
      have hb1 := hb0.others hk1
      go_wp2_with (at_builtin; refine appB rfl _ _ rfl w _ _ rfl (hO1.ext ((Ext.refl _).alloc _ _)) _ [44] rfl (rdB_lit x1 44 44 rfl _ rfl) (by simp only [List.length_append, List.length_cons, List.length_nil]; omega) ?_; intro v2 x2 hO2 hg2; have hb2 := (hb1.alloc _).grow (hO1.ext ((Ext.refl _).alloc _ _)) hg2; have q2 := hb2.c1)
      refine (ai_call w x2 v2 _ un hO2 HG.out.1 o3 o4 (by simp only [List.length_append, List.length_cons, List.length_nil]; omega)).mono ?_; rintro e x3 ⟨v3, rfl, hO3, hk3⟩
      have hb3 := hb2.others hk3
      clear q2
      go_wp2_with (at_builtin; refine appB rfl _ _ rfl w _ _ rfl (hO3.ext ((Ext.refl _).alloc _ _)) _ [44] rfl (rdB_lit x3 44 44 rfl _ rfl) (by simp only [List.length_append, List.length_cons, List.length_nil]; omega) ?_; intro v4 x4 hO4 hg4; have hb4 := (hb3.alloc _).grow (hO3.ext ((Ext.refl _).alloc _ _)) hg4; have q4 := hb4.c2)
      refine (ai_call w x4 v4 _ (us.length : Int) hO4 HG.out.1 (by omega) (by omega) (by simp only [List.length_append, List.length_cons, List.length_nil]; omega)).mono ?_; rintro e x5 ⟨v5, rfl, hO5, hk5⟩
      have hb5 := hb4.others hk5
      clear q4
      go_wp2_with (first
        | (at_builtin; refine appB rfl _ _ rfl w _ _ rfl (hO5.ext ((Ext.refl _).alloc _ _)) _ [58] rfl (rdB_lit x5 58 58 rfl _ rfl) (by simp only [List.length_append, List.length_cons, List.length_nil]; omega) ?_; intro v6 x6 hO6 hg6; have hb6 := (hb5.alloc _).grow (hO5.ext ((Ext.refl _).alloc _ _)) hg6; have q6 := hb6.c2)
        | (at_builtin; refine appS rfl _ _ rfl w _ _ rfl hO6 us rfl (by simp only [List.length_append, List.length_cons, List.length_nil]; omega) ?_; intro v7 x7 hO7 hg7))
      go_roundw
      case rel => exact ⟨k + 1, hlt', by go_num, HS.out ▸ hO7⟩
      case measure => simp [intOf]; omega
    · have HR := Lib.hid (show keyL (l.take k) = keyL l by rw [List.take_of_length_le (by have := HN.out; omega)])
      have cv := hO.rd.text
      go_wp2_with fail
      go_ret
      exact ⟨ret_sv HR.out, hO.2⟩
end Go.Proofs.YtejgmiljjpgbpaaDoor
