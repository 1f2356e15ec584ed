/- The program's compare of rows, in worlds that only grow by new blocks. -/
import Derived.Test.YtnckdopphimgoaaZz01
import Derived.Test.YtnckdopphimgoaaZz05
import Derived.Test.YtnckdopphimgoaaZz18
namespace Go.Proofs.Ytnckdopphimgoaa
open Go.ChangeShapes Go.WideShapes Go.ChangeAt Go.RowKit

theorem gw2 (w : World) (a b : Obj) : Gw w ((w.alloc a).alloc b) := ((Gw.refl _).alloc _).alloc _
set_option maxHeartbeats 1000000 in
theorem cmp_gw (a b : V) (w : World) : Calls Try.prog 64 #[vv a, vv b] w fun e w' => e = .returned (.int .i64 (cmpV a b)) ∧ Gw w w' := by
  obtain ⟨k, n, s⟩ := a
  obtain ⟨k2, n2, s2⟩ := b
  by_cases hk : k = k2
  · by_cases hn : n = n2
    · subst hk hn
      have H := Lib.hid (show cmpV ⟨k, n, s⟩ ⟨k, n, s2⟩ = Lib.compareBytes s s2 by unfold cmpV; rw [if_pos rfl, if_pos rfl])
      go_enter Try.func64, Try.ntmps64
      go_wp2_with fail
      refine (Try.strings_Compare _ _ _).mono ?_; rintro e w1 ⟨rfl, rfl⟩
      go_wp2_with fail
      go_ret
      exact ⟨ret_int H.out.symm, gw2 _ _ _⟩
    · subst hk
      have H := Lib.hid (show cmpV ⟨k, n, s⟩ ⟨k, n2, s2⟩ = Lib.compareInt n n2 by unfold cmpV; rw [if_pos rfl, if_neg hn])
      go_enter Try.func64, Try.ntmps64
      go_wp2_with fail
      refine (cmp64 _ _ _).mono ?_; rintro e w1 ⟨rfl, rfl⟩
      go_wp2_with fail
      go_ret
      exact ⟨ret_int H.out.symm, gw2 _ _ _⟩
  · have H := Lib.hid (show cmpV ⟨k, n, s⟩ ⟨k2, n2, s2⟩ = Lib.compareInt k k2 by unfold cmpV; rw [if_neg hk])
    go_enter Try.func64, Try.ntmps64
    go_wp2_with fail
    refine (Try.cmp_Compare_int _ _ _).mono ?_; rintro e w1 ⟨rfl, rfl⟩
    go_wp2_with fail
    go_ret
    exact ⟨ret_int H.out.symm, gw2 _ _ _⟩
def CgR {α : Type} (w : World) (a b : List α) (i : Value) (wr : World) : Prop := ∃ k : Nat, k ≤ a.length ∧ k ≤ b.length ∧ i = .int .i64 k ∧ Hid (a.take k = b.take k) ∧ Gw w wr
set_option maxHeartbeats 4000000 in
set_option maxRecDepth 100000 in
theorem cfv_gw (a b : List V) (va vb : Value) (w : World) (hra : RdG w va a) (hrb : RdG w vb b) :
    Calls Try.prog 63 #[va, vb, .func (.func 64) #[] #[]] w fun e w' => e = .returned (.int .i64 (lexC cmpV a b)) ∧ Gw w w' := by
  obtain ⟨ad, cap, rfl, h1, h2⟩ := hra.shape
  obtain ⟨bd, bcap, rfl, i1, i2⟩ := hrb.shape
  have H4 := Lib.hid hra
  have I4 := Lib.hid hrb
  clear hra hrb
  obtain ⟨n, hn⟩ : ∃ n, n = a.length := ⟨_, rfl⟩
  obtain ⟨m, hm⟩ : ∃ m, m = b.length := ⟨_, rfl⟩
  have HN := Lib.hid hn
  have HM := Lib.hid hm
  rw [← hn] at h1 H4 ⊢
  rw [← hm] at i1 I4 ⊢
  clear hn hm
  unfold maxLen at h2 i2
  go_enter Try.func63, Try.ntmps63
  go_wp2_with fail
  go_loopw [13] (CgR w a b) (fun i _ => n - (intOf i).toNat)
  case atStart => exact ⟨0, Nat.zero_le _, Nat.zero_le _, rfl, Lib.hid (by simp), Gw.refl _⟩
  case round =>
    obtain ⟨k, hk, hkb, rfl, HT, hE⟩ := hrel
    have hkn : k ≤ n := by rw [HN.out]; exact hk
    have hkm : k ≤ m := by rw [HM.out]; exact hkb
    by_cases hlt : k < n
    · have hlt' : k < a.length := by rw [← HN.out]; exact hlt
      obtain ⟨g, o, rfl, c0', c1', c2'⟩ := rd_V H4.out k hlt'
      have c0 := hE.ext.keeps c0'
      have c1 := hE.ext.keeps c1'
      have c2 := hE.ext.keeps c2'
      clear c0' c1' c2'
      by_cases hlt2 : k < m
      · have hlt2' : k < b.length := by rw [← HM.out]; exact hlt2
        obtain ⟨g2, o2, rfl, d0', d1', d2'⟩ := rd_V I4.out k hlt2'
        have d0 := hE.ext.keeps d0'
        have d1 := hE.ext.keeps d1'
        have d2 := hE.ext.keeps d2'
        have HC := Lib.hid (lx_at cv_ord a b k hlt' hlt2' HT.out)
        have HX := Lib.hid (lx_next cv_ord a b k hlt' hlt2' HT.out)
        have hg2 : g2 < wr.heap.size := World.block_lt_of_cell? _ _ d0
        clear d0' d1' d2'
        generalize a[k] = x at *
        generalize b[k] = y at *
        obtain ⟨xk, xn, xs⟩ := x
        obtain ⟨yk, yn, ys⟩ := y
        simp only at c0 c1 c2 d0 d1 d2
        have hcv := cmp_gw ⟨xk, xn, xs⟩ ⟨yk, yn, ys⟩
        by_cases hz : cmpV ⟨xk, xn, xs⟩ ⟨yk, yn, ys⟩ = 0
        · rw [hz] at hcv
          have HV := Lib.hid hcv
          have HX' := Lib.hid (HX.out hz)
          clear hcv hz
          go_wp2_with fail
          refine (HV.out _).mono ?_; rintro e w1 ⟨rfl, hg⟩
          go_wp2_with fail
          go_roundw
          case rel => exact ⟨k + 1, hlt', hlt2', by go_num, HX', (hE.trans (gw2 _ _ _)).trans hg⟩
          case measure => simp [intOf]; omega
        · have HV := Lib.hid hcv
          have HR := Lib.hid (show lexC cmpV a b = cmpV ⟨xk, xn, xs⟩ ⟨yk, yn, ys⟩ by rw [HC.out, if_neg hz])
          have hz1 : (cmpV ⟨xk, xn, xs⟩ ⟨yk, yn, ys⟩ == 0) = false := by simpa using hz
          clear hcv
          go_wp2_with fail
          refine (HV.out _).mono ?_; rintro e w1 ⟨rfl, hg⟩
          go_wp2_with fail
          go_ret
          exact ⟨ret_int HR.out.symm, (hE.trans (gw2 _ _ _)).trans hg⟩
      · have HR := Lib.hid (show lexC cmpV a b = 1 by rw [lx_end cv_ord a b k hk hkb HT.out (Or.inr (by have := HM.out; omega)), if_neg (by have := HM.out; omega), if_pos (by have := HM.out; omega)])
        go_wp2_with fail
        go_ret
        exact ⟨ret_int HR.out.symm, hE.alloc _⟩
    · have hR := lx_end cv_ord a b k hk hkb HT.out (Or.inl (by have := HN.out; omega))
      by_cases hnm : n < m
      · have HR := Lib.hid (show lexC cmpV a b = -1 by rw [hR, if_pos (by rw [← HN.out, ← HM.out]; exact hnm)])
        clear hR
        go_wp2_with fail
        go_ret
        exact ⟨ret_int HR.out.symm, hE⟩
      · have HR := Lib.hid (show lexC cmpV a b = 0 by rw [hR, if_neg (by rw [← HN.out, ← HM.out]; exact hnm), if_neg (by have := HN.out; omega)])
        clear hR
        go_wp2_with fail
        go_ret
        exact ⟨ret_int HR.out.symm, hE⟩
set_option maxHeartbeats 1000000 in
theorem crows_gw (a b : List V) (va vb : Value) (w : World) (hra : RdG w va a) (hrb : RdG w vb b) : Calls Try.prog 52 #[va, vb] w fun e w' => e = .returned (.int .i64 (cmpR a b)) ∧ Gw w w' := by
  have HA := Lib.hid hra
  have HB := Lib.hid hrb
  clear hra hrb
  go_enter Try.func52, Try.ntmps52
  go_wp2_with fail
  refine (cfv_gw a b va vb w HA.out HB.out).mono ?_; rintro e w1 ⟨rfl, hE⟩
  go_wp2_with fail
  go_ret
  exact ⟨ret_int (cr_lex a b).symm, hE⟩
set_option maxHeartbeats 4000000 in
set_option maxRecDepth 100000 in
theorem cfn_gw (a b : List Int) (va vb : Value) (w : World) (hra : RdG w va a) (hrb : RdG w vb b) :
    Calls Try.prog 53 #[va, vb] w fun e w' => e = .returned (.int .i64 (cmpN a b)) ∧ Gw w w' := by
  obtain ⟨ad, cap, rfl, h1, h2⟩ := hra.shape
  obtain ⟨bd, bcap, rfl, i1, i2⟩ := hrb.shape
  have H4 := Lib.hid hra
  have I4 := Lib.hid hrb
  clear hra hrb
  obtain ⟨n, hn⟩ : ∃ n, n = a.length := ⟨_, rfl⟩
  obtain ⟨m, hm⟩ : ∃ m, m = b.length := ⟨_, rfl⟩
  have HN := Lib.hid hn
  have HM := Lib.hid hm
  rw [← hn] at h1 H4 ⊢
  rw [← hm] at i1 I4 ⊢
  clear hn hm
  unfold maxLen at h2 i2
  go_enter Try.func53, Try.ntmps53
  go_wp2_with fail
  go_loopw [11] (CgR w a b) (fun i _ => n - (intOf i).toNat)
  case atStart => exact ⟨0, Nat.zero_le _, Nat.zero_le _, rfl, Lib.hid (by simp), Gw.refl _⟩
  case round =>
    obtain ⟨k, hk, hkb, rfl, HT, hE⟩ := hrel
    have hkn : k ≤ n := by rw [HN.out]; exact hk
    have hkm : k ≤ m := by rw [HM.out]; exact hkb
    by_cases hlt : k < n
    · have hlt' : k < a.length := by rw [← HN.out]; exact hlt
      obtain ⟨g, o, rfl, c0'⟩ := rd_I H4.out k hlt'
      have c0 := hE.ext.keeps c0'
      clear c0'
      by_cases hlt2 : k < m
      · have hlt2' : k < b.length := by rw [← HM.out]; exact hlt2
        obtain ⟨g2, o2, rfl, d0'⟩ := rd_I I4.out k hlt2'
        have d0 := hE.ext.keeps d0'
        have HC := Lib.hid (lx_at ci_ord a b k hlt' hlt2' HT.out)
        have HX := Lib.hid (lx_next ci_ord a b k hlt' hlt2' HT.out)
        clear d0'
        generalize a[k] = x at *
        generalize b[k] = y at *
        by_cases hz : Lib.compareInt x y = 0
        · have hcv := fun w => Try.cmp_Compare_int x y w
          rw [hz] at hcv
          have HV := Lib.hid hcv
          have HX' := Lib.hid (HX.out hz)
          clear hcv hz
          go_wp2_with fail
          refine (HV.out _).mono ?_; rintro e w1 ⟨rfl, rfl⟩
          go_wp2_with fail
          go_roundw
          case rel => exact ⟨k + 1, hlt', hlt2', by go_num, HX', hE⟩
          case measure => simp [intOf]; omega
        · have HR := Lib.hid (show cmpN a b = Lib.compareInt x y by unfold cmpN; rw [HC.out, if_neg hz])
          have hz1 : (Lib.compareInt x y == 0) = false := by simpa using hz
          go_wp2_with fail
          refine (Try.cmp_Compare_int x y _).mono ?_; rintro e w1 ⟨rfl, rfl⟩
          go_wp2_with fail
          go_ret
          exact ⟨ret_int HR.out.symm, hE⟩
      · have HR := Lib.hid (show cmpN a b = 1 by unfold cmpN; rw [lx_end ci_ord a b k hk hkb HT.out (Or.inr (by have := HM.out; omega)), if_neg (by have := HM.out; omega), if_pos (by have := HM.out; omega)])
        go_wp2_with fail
        go_ret
        exact ⟨ret_int HR.out.symm, hE⟩
    · have hR := lx_end ci_ord a b k hk hkb HT.out (Or.inl (by have := HN.out; omega))
      by_cases hnm : n < m
      · have HR := Lib.hid (show cmpN a b = -1 by unfold cmpN; rw [hR, if_pos (by rw [← HN.out, ← HM.out]; exact hnm)])
        clear hR
        go_wp2_with fail
        go_ret
        exact ⟨ret_int HR.out.symm, hE⟩
      · have HR := Lib.hid (show cmpN a b = 0 by unfold cmpN; rw [hR, if_neg (by rw [← HN.out, ← HM.out]; exact hnm), if_neg (by have := HN.out; omega)])
        clear hR
        go_wp2_with fail
        go_ret
        exact ⟨ret_int HR.out.symm, hE⟩
end Go.Proofs.Ytnckdopphimgoaa
