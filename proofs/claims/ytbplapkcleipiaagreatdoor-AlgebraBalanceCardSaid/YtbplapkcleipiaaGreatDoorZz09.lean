/- Contracts of Compare, of the program and of the reference. -/
import Derived.Test.YtbplapkcleipiaaGreatDoorZz01
import Derived.Test.YtbplapkcleipiaaGreatDoorZz02
import Derived.Test.YtbplapkcleipiaaGreatDoorZz03
import Derived.Test.YtbplapkcleipiaaGreatDoorZz08
namespace Go.Proofs.YtbplapkcleipiaaGreatDoor
open Go.ChangeShapes Go.WideShapes Go.ChangeAt Go.RowKit

abbrev sv (l : List UInt8) : Value := .string ⟨l.toArray⟩
abbrev vv (v : V) : Value := .agg #[.int .i64 v.k, .int .i64 v.n, sv v.s]

set_option maxHeartbeats 1000000 in
theorem cmp64 (x y : Int) (w : World) : Calls Tryz.prog 78 #[.int .i64 x, .int .i64 y] w fun e w' => e = .returned (.int .i64 (Lib.compareInt x y)) ∧ w = w' := by
  rcases ci_vals x y with ⟨h, h'⟩ | ⟨h, h'⟩ | ⟨h, h'⟩
  all_goals
    have H := Lib.hid h; clear h
    try subst h'
    go_enter Tryz.func78, Tryz.ntmps78
    go_wp2
    go_ret
    exact ⟨ret_int H.out.symm, rfl⟩
set_option maxHeartbeats 1000000 in
theorem cmp_val (a b : V) (w : World) : Calls Tryz.prog 56 #[vv a, vv b] w fun e w' => e = .returned (.int .i64 (cmpV a b)) ∧ Grown w w' := by
  obtain ⟨k, n, s⟩ := a
  obtain ⟨k2, n2, s2⟩ := b
  by_cases hk : k = k2
  · by_cases hn : n = n2
    · subst hk hn
      have H := Lib.hid (show cmpV ⟨k, n, s⟩ ⟨k, n, s2⟩ = Lib.compareBytes s s2 by unfold cmpV; rw [if_pos rfl, if_pos rfl])
      go_enter Tryz.func56, Tryz.ntmps56
      go_wp2_with fail
      refine (Tryz.strings_Compare _ _ _).mono ?_; rintro e w1 ⟨rfl, rfl⟩
      go_wp2_with fail
      go_ret
      exact ⟨ret_int H.out.symm, ((Grown.refl _).alloc _ _).alloc _ _⟩
    · subst hk
      have H := Lib.hid (show cmpV ⟨k, n, s⟩ ⟨k, n2, s2⟩ = Lib.compareInt n n2 by unfold cmpV; rw [if_pos rfl, if_neg hn])
      go_enter Tryz.func56, Tryz.ntmps56
      go_wp2_with fail
      refine (cmp64 _ _ _).mono ?_; rintro e w1 ⟨rfl, rfl⟩
      go_wp2_with fail
      go_ret
      exact ⟨ret_int H.out.symm, ((Grown.refl _).alloc _ _).alloc _ _⟩
  · have H := Lib.hid (show cmpV ⟨k, n, s⟩ ⟨k2, n2, s2⟩ = Lib.compareInt k k2 by unfold cmpV; rw [if_neg hk])
    go_enter Tryz.func56, Tryz.ntmps56
    go_wp2_with fail
    refine (Tryz.cmp_Compare_int _ _ _).mono ?_; rintro e w1 ⟨rfl, rfl⟩
    go_wp2_with fail
    go_ret
    exact ⟨ret_int H.out.symm, ((Grown.refl _).alloc _ _).alloc _ _⟩
set_option maxHeartbeats 1000000 in
theorem cmp_ref (a b : V) (w : World) : Calls Tryz.prog 40 #[vv a, vv b] w fun e w' => e = .returned (.int .i64 (cmpV a b)) ∧ Grown w w' := by
  obtain ⟨k, n, s⟩ := a
  obtain ⟨k2, n2, s2⟩ := b
  have hL := cv_less ⟨k, n, s⟩ ⟨k2, n2, s2⟩
  have hZ := cv_zero ⟨k, n, s⟩ ⟨k2, n2, s2⟩
  have hV := cv_vals ⟨k, n, s⟩ ⟨k2, n2, s2⟩
  have hB := cb_less s s2
  simp only [V.mk.injEq] at hL hZ
  rcases Int.lt_trichotomy k k2 with hk | hk | hk
  · have HC := Lib.hid (hL.2 (Or.inl hk))
    clear hL hZ hV hB
    go_enter Tryz.func40, Tryz.ntmps40
    go_wp2
    go_ret
    exact ⟨ret_int (show (-1 : Int) = _ from HC.out.symm), ((Grown.refl _).alloc _ _).alloc _ _⟩
  · subst hk
    rcases Int.lt_trichotomy n n2 with hn | hn | hn
    · have HC := Lib.hid (hL.2 (Or.inr ⟨rfl, Or.inl hn⟩))
      clear hL hZ hV hB
      go_enter Tryz.func40, Tryz.ntmps40
      go_wp2
      go_ret
      exact ⟨ret_int (show (-1 : Int) = _ from HC.out.symm), ((Grown.refl _).alloc _ _).alloc _ _⟩
    · subst hn
      rcases cb_vals s s2 with hs | hs | hs
      · have HC := Lib.hid (hL.2 (Or.inr ⟨rfl, Or.inr ⟨rfl, hs⟩⟩))
        have hb : Op.bytesLess s s2 = true := by rw [hB]; simpa using hs
        clear hL hZ hV hB hs
        go_enter Tryz.func40, Tryz.ntmps40
        go_wp2
        go_ret
        exact ⟨ret_int (show (-1 : Int) = _ from HC.out.symm), ((Grown.refl _).alloc _ _).alloc _ _⟩
      · have e := (cb_zero s s2).1 hs
        subst e
        have HC := Lib.hid (hZ.2 ⟨rfl, rfl, rfl⟩)
        have hb : Op.bytesLess s s = false := by rw [hB, hs]; rfl
        clear hL hZ hV hB hs
        go_enter Tryz.func40, Tryz.ntmps40
        go_wp2
        go_ret
        exact ⟨ret_int (show (0 : Int) = _ from HC.out.symm), ((Grown.refl _).alloc _ _).alloc _ _⟩
      · have hne : s ≠ s2 := fun e => by have := (cb_zero s s2).2 e; omega
        have HC := Lib.hid (show cmpV ⟨k, n, s⟩ ⟨k, n, s2⟩ = 1 by
          rcases hV with h | h | h
          · have := hL.1 h; omega
          · exact absurd (hZ.1 h).2.2 hne
          · exact h)
        have hb : Op.bytesLess s s2 = false := by rw [hB, hs]; rfl
        have hb2 : (s == s2) = false := by simpa using hne
        clear hL hZ hV hB hs
        go_enter Tryz.func40, Tryz.ntmps40
        go_wp2
        go_ret
        exact ⟨ret_int (show (1 : Int) = _ from HC.out.symm), ((Grown.refl _).alloc _ _).alloc _ _⟩
    · have HC := Lib.hid (show cmpV ⟨k, n, s⟩ ⟨k, n2, s2⟩ = 1 by
        rcases hV with h | h | h
        · have := hL.1 h; omega
        · have := (hZ.1 h).2.1; omega
        · exact h)
      clear hL hZ hV hB
      go_enter Tryz.func40, Tryz.ntmps40
      go_wp2
      go_ret
      exact ⟨ret_int (show (1 : Int) = _ from HC.out.symm), ((Grown.refl _).alloc _ _).alloc _ _⟩
  · have HC := Lib.hid (show cmpV ⟨k, n, s⟩ ⟨k2, n2, s2⟩ = 1 by
      rcases hV with h | h | h
      · have := hL.1 h; omega
      · have := (hZ.1 h).1; omega
      · exact h)
    clear hL hZ hV hB
    go_enter Tryz.func40, Tryz.ntmps40
    go_wp2
    go_ret
    exact ⟨ret_int (show (1 : Int) = _ from HC.out.symm), ((Grown.refl _).alloc _ _).alloc _ _⟩
end Go.Proofs.YtbplapkcleipiaaGreatDoor
/- How values lie in cells. -/
namespace Go.Proofs.YtbplapkcleipiaaGreatDoor
open Go.ChangeShapes Go.WideShapes Go.ChangeAt Go.RowKit

instance : Enc V := ⟨3, by decide, fun v => [.int .i64 v.k, .int .i64 v.n, sv v.s], fun _ => rfl, fun a u h => by simp at h; rcases h with rfl | rfl | rfl <;> rfl⟩
def tV : RowT V := ⟨58, 49, nul, .agg #[.int .i64 0, .int .i64 0, sv []], 32, Tryz.underlying49, by kernel_rfl, by rfl, by decide⟩
theorem rd_V {w : World} {ad : Option Addr} {n cap : Nat} {l : List V} (h : RdG w (.slice ad n cap) l) (i : Nat) (hi : i < l.length) : ∃ g o, ad = some ⟨g, o, none⟩ ∧ w.cell? ⟨g, o + i * 3, none⟩ = some (.int .i64 l[i].k) ∧ w.cell? ⟨g, o + i * 3 + 1, none⟩ = some (.int .i64 l[i].n) ∧ w.cell? ⟨g, o + i * 3 + 2, none⟩ = some (sv l[i].s) := by
  obtain ⟨g, o, e, c⟩ := h.at i hi
  exact ⟨g, o, e, c 0 _ rfl, c 1 _ rfl, c 2 _ rfl⟩
end Go.Proofs.YtbplapkcleipiaaGreatDoor
/- The program's compare of rows, in worlds that only grow by new blocks. -/
namespace Go.Proofs.YtbplapkcleipiaaGreatDoor
open Go.ChangeShapes Go.WideShapes Go.ChangeAt Go.RowKit

theorem gw2 (w : World) (a b : Obj) : Gw w ((w.alloc a).alloc b) := ((Gw.refl _).alloc _).alloc _
set_option maxHeartbeats 1000000 in
theorem cmp_gw (a b : V) (w : World) : Calls Tryz.prog 56 #[vv a, vv b] w fun e w' => e = .returned (.int .i64 (cmpV a b)) ∧ Gw w w' := by
  obtain ⟨k, n, s⟩ := a
  obtain ⟨k2, n2, s2⟩ := b
  by_cases hk : k = k2
  · by_cases hn : n = n2
    · subst hk hn
      have H := Lib.hid (show cmpV ⟨k, n, s⟩ ⟨k, n, s2⟩ = Lib.compareBytes s s2 by unfold cmpV; rw [if_pos rfl, if_pos rfl])
      go_enter Tryz.func56, Tryz.ntmps56
      go_wp2_with fail
      refine (Tryz.strings_Compare _ _ _).mono ?_; rintro e w1 ⟨rfl, rfl⟩
      go_wp2_with fail
      go_ret
      exact ⟨ret_int H.out.symm, gw2 _ _ _⟩
    · subst hk
      have H := Lib.hid (show cmpV ⟨k, n, s⟩ ⟨k, n2, s2⟩ = Lib.compareInt n n2 by unfold cmpV; rw [if_pos rfl, if_neg hn])
      go_enter Tryz.func56, Tryz.ntmps56
      go_wp2_with fail
      refine (cmp64 _ _ _).mono ?_; rintro e w1 ⟨rfl, rfl⟩
      go_wp2_with fail
      go_ret
      exact ⟨ret_int H.out.symm, gw2 _ _ _⟩
  · have H := Lib.hid (show cmpV ⟨k, n, s⟩ ⟨k2, n2, s2⟩ = Lib.compareInt k k2 by unfold cmpV; rw [if_neg hk])
    go_enter Tryz.func56, Tryz.ntmps56
    go_wp2_with fail
    refine (Tryz.cmp_Compare_int _ _ _).mono ?_; rintro e w1 ⟨rfl, rfl⟩
    go_wp2_with fail
    go_ret
    exact ⟨ret_int H.out.symm, gw2 _ _ _⟩
def CgR {α : Type} (w : World) (a b : List α) (i : Value) (wr : World) : Prop := ∃ k : Nat, k ≤ a.length ∧ k ≤ b.length ∧ i = .int .i64 k ∧ Hid (a.take k = b.take k) ∧ Gw w wr
set_option maxHeartbeats 4000000 in
set_option maxRecDepth 100000 in
theorem cfv_gw (a b : List V) (va vb : Value) (w : World) (hra : RdG w va a) (hrb : RdG w vb b) :
    Calls Tryz.prog 55 #[va, vb, .func (.func 56) #[] #[]] w fun e w' => e = .returned (.int .i64 (lexC cmpV a b)) ∧ Gw w w' := by
  obtain ⟨ad, cap, rfl, h1, h2⟩ := hra.shape
  obtain ⟨bd, bcap, rfl, i1, i2⟩ := hrb.shape
  have H4 := Lib.hid hra
  have I4 := Lib.hid hrb
  clear hra hrb
  obtain ⟨n, hn⟩ : ∃ n, n = a.length := ⟨_, rfl⟩
  obtain ⟨m, hm⟩ : ∃ m, m = b.length := ⟨_, rfl⟩
  have HN := Lib.hid hn
  have HM := Lib.hid hm
  rw [← hn] at h1 H4 ⊢
  rw [← hm] at i1 I4 ⊢
  clear hn hm
  unfold maxLen at h2 i2
  go_enter Tryz.func55, Tryz.ntmps55
  go_wp2_with fail
  go_loopw [13] (CgR w a b) (fun i _ => n - (intOf i).toNat)
  case atStart => exact ⟨0, Nat.zero_le _, Nat.zero_le _, rfl, Lib.hid (by simp), Gw.refl _⟩
  case round =>
    obtain ⟨k, hk, hkb, rfl, HT, hE⟩ := hrel
    have hkn : k ≤ n := by rw [HN.out]; exact hk
    have hkm : k ≤ m := by rw [HM.out]; exact hkb
    by_cases hlt : k < n
    · have hlt' : k < a.length := by rw [← HN.out]; exact hlt
      obtain ⟨g, o, rfl, c0', c1', c2'⟩ := rd_V H4.out k hlt'
      have c0 := hE.ext.keeps c0'
      have c1 := hE.ext.keeps c1'
      have c2 := hE.ext.keeps c2'
      clear c0' c1' c2'
      by_cases hlt2 : k < m
      · have hlt2' : k < b.length := by rw [← HM.out]; exact hlt2
        obtain ⟨g2, o2, rfl, d0', d1', d2'⟩ := rd_V I4.out k hlt2'
        have d0 := hE.ext.keeps d0'
        have d1 := hE.ext.keeps d1'
        have d2 := hE.ext.keeps d2'
        have HC := Lib.hid (lx_at cv_ord a b k hlt' hlt2' HT.out)
        have HX := Lib.hid (lx_next cv_ord a b k hlt' hlt2' HT.out)
        have hg2 : g2 < wr.heap.size := World.block_lt_of_cell? _ _ d0
        clear d0' d1' d2'
        generalize a[k] = x at *
        generalize b[k] = y at *
        obtain ⟨xk, xn, xs⟩ := x
        obtain ⟨yk, yn, ys⟩ := y
        simp only at c0 c1 c2 d0 d1 d2
        have hcv := cmp_gw ⟨xk, xn, xs⟩ ⟨yk, yn, ys⟩
        by_cases hz : cmpV ⟨xk, xn, xs⟩ ⟨yk, yn, ys⟩ = 0
        · rw [hz] at hcv
          have HV := Lib.hid hcv
          have HX' := Lib.hid (HX.out hz)
          clear hcv hz
          go_wp2_with fail
          refine (HV.out _).mono ?_; rintro e w1 ⟨rfl, hg⟩
          go_wp2_with fail
          go_roundw
          case rel => exact ⟨k + 1, hlt', hlt2', by go_num, HX', (hE.trans (gw2 _ _ _)).trans hg⟩
          case measure => simp [intOf]; omega
        · have HV := Lib.hid hcv
          have HR := Lib.hid (show lexC cmpV a b = cmpV ⟨xk, xn, xs⟩ ⟨yk, yn, ys⟩ by rw [HC.out, if_neg hz])
          have hz1 : (cmpV ⟨xk, xn, xs⟩ ⟨yk, yn, ys⟩ == 0) = false := by simpa using hz
          clear hcv
          go_wp2_with fail
          refine (HV.out _).mono ?_; rintro e w1 ⟨rfl, hg⟩
          go_wp2_with fail
          go_ret
          exact ⟨ret_int HR.out.symm, (hE.trans (gw2 _ _ _)).trans hg⟩
      · have HR := Lib.hid (show lexC cmpV a b = 1 by rw [lx_end cv_ord a b k hk hkb HT.out (Or.inr (by have := HM.out; omega)), if_neg (by have := HM.out; omega), if_pos (by have := HM.out; omega)])
        go_wp2_with fail
        go_ret
        exact ⟨ret_int HR.out.symm, hE.alloc _⟩
    · have hR := lx_end cv_ord a b k hk hkb HT.out (Or.inl (by have := HN.out; omega))
      by_cases hnm : n < m
      · have HR := Lib.hid (show lexC cmpV a b = -1 by rw [hR, if_pos (by rw [← HN.out, ← HM.out]; exact hnm)])
        clear hR
        go_wp2_with fail
        go_ret
        exact ⟨ret_int HR.out.symm, hE⟩
      · have HR := Lib.hid (show lexC cmpV a b = 0 by rw [hR, if_neg (by rw [← HN.out, ← HM.out]; exact hnm), if_neg (by have := HN.out; omega)])
        clear hR
        go_wp2_with fail
        go_ret
        exact ⟨ret_int HR.out.symm, hE⟩
set_option maxHeartbeats 1000000 in
theorem crows_gw (a b : List V) (va vb : Value) (w : World) (hra : RdG w va a) (hrb : RdG w vb b) : Calls Tryz.prog 37 #[va, vb] w fun e w' => e = .returned (.int .i64 (cmpR a b)) ∧ Gw w w' := by
  have HA := Lib.hid hra
  have HB := Lib.hid hrb
  clear hra hrb
  go_enter Tryz.func37, Tryz.ntmps37
  go_wp2_with fail
  refine (cfv_gw a b va vb w HA.out HB.out).mono ?_; rintro e w1 ⟨rfl, hE⟩
  go_wp2_with fail
  go_ret
  exact ⟨ret_int (cr_lex a b).symm, hE⟩
set_option maxHeartbeats 4000000 in
set_option maxRecDepth 100000 in
theorem cfn_gw (a b : List Int) (va vb : Value) (w : World) (hra : RdG w va a) (hrb : RdG w vb b) :
    Calls Tryz.prog 76 #[va, vb] w fun e w' => e = .returned (.int .i64 (cmpN a b)) ∧ Gw w w' := by
  obtain ⟨ad, cap, rfl, h1, h2⟩ := hra.shape
  obtain ⟨bd, bcap, rfl, i1, i2⟩ := hrb.shape
  have H4 := Lib.hid hra
  have I4 := Lib.hid hrb
  clear hra hrb
  obtain ⟨n, hn⟩ : ∃ n, n = a.length := ⟨_, rfl⟩
  obtain ⟨m, hm⟩ : ∃ m, m = b.length := ⟨_, rfl⟩
  have HN := Lib.hid hn
  have HM := Lib.hid hm
  rw [← hn] at h1 H4 ⊢
  rw [← hm] at i1 I4 ⊢
  clear hn hm
  unfold maxLen at h2 i2
  go_enter Tryz.func76, Tryz.ntmps76
  go_wp2_with fail
  go_loopw [11] (CgR w a b) (fun i _ => n - (intOf i).toNat)
  case atStart => exact ⟨0, Nat.zero_le _, Nat.zero_le _, rfl, Lib.hid (by simp), Gw.refl _⟩
  case round =>
    obtain ⟨k, hk, hkb, rfl, HT, hE⟩ := hrel
    have hkn : k ≤ n := by rw [HN.out]; exact hk
    have hkm : k ≤ m := by rw [HM.out]; exact hkb
    by_cases hlt : k < n
    · have hlt' : k < a.length := by rw [← HN.out]; exact hlt
      obtain ⟨g, o, rfl, c0'⟩ := rd_I H4.out k hlt'
      have c0 := hE.ext.keeps c0'
      clear c0'
      by_cases hlt2 : k < m
      · have hlt2' : k < b.length := by rw [← HM.out]; exact hlt2
        obtain ⟨g2, o2, rfl, d0'⟩ := rd_I I4.out k hlt2'
        have d0 := hE.ext.keeps d0'
        have HC := Lib.hid (lx_at ci_ord a b k hlt' hlt2' HT.out)
        have HX := Lib.hid (lx_next ci_ord a b k hlt' hlt2' HT.out)
        clear d0'
        generalize a[k] = x at *
        generalize b[k] = y at *
        by_cases hz : Lib.compareInt x y = 0
        · have hcv := fun w => Tryz.cmp_Compare_int x y w
          rw [hz] at hcv
          have HV := Lib.hid hcv
          have HX' := Lib.hid (HX.out hz)
          clear hcv hz
          go_wp2_with fail
          refine (HV.out _).mono ?_; rintro e w1 ⟨rfl, rfl⟩
          go_wp2_with fail
          go_roundw
          case rel => exact ⟨k + 1, hlt', hlt2', by go_num, HX', hE⟩
          case measure => simp [intOf]; omega
        · have HR := Lib.hid (show cmpN a b = Lib.compareInt x y by unfold cmpN; rw [HC.out, if_neg hz])
          have hz1 : (Lib.compareInt x y == 0) = false := by simpa using hz
          go_wp2_with fail
          refine (Tryz.cmp_Compare_int x y _).mono ?_; rintro e w1 ⟨rfl, rfl⟩
          go_wp2_with fail
          go_ret
          exact ⟨ret_int HR.out.symm, hE⟩
      · have HR := Lib.hid (show cmpN a b = 1 by unfold cmpN; rw [lx_end ci_ord a b k hk hkb HT.out (Or.inr (by have := HM.out; omega)), if_neg (by have := HM.out; omega), if_pos (by have := HM.out; omega)])
        go_wp2_with fail
        go_ret
        exact ⟨ret_int HR.out.symm, hE⟩
    · have hR := lx_end ci_ord a b k hk hkb HT.out (Or.inl (by have := HN.out; omega))
      by_cases hnm : n < m
      · have HR := Lib.hid (show cmpN a b = -1 by unfold cmpN; rw [hR, if_pos (by rw [← HN.out, ← HM.out]; exact hnm)])
        clear hR
        go_wp2_with fail
        go_ret
        exact ⟨ret_int HR.out.symm, hE⟩
      · have HR := Lib.hid (show cmpN a b = 0 by unfold cmpN; rw [hR, if_neg (by rw [← HN.out, ← HM.out]; exact hnm), if_neg (by have := HN.out; omega)])
        clear hR
        go_wp2_with fail
        go_ret
        exact ⟨ret_int HR.out.symm, hE⟩
end Go.Proofs.YtbplapkcleipiaaGreatDoor
/- Rows of values with their lineage: how they lie, and slices of them. -/
namespace Go.Proofs.YtbplapkcleipiaaGreatDoor
open Go.ChangeShapes Go.WideShapes Go.ChangeAt Go.RowKit

/-- two slice headers -/
structure Hd where
  a : Option Addr
  n : Nat
  c : Nat
  b : Option Addr
  m : Nat
  d : Nat
abbrev Hd.x (h : Hd) : Value := .slice h.a h.n h.c
abbrev Hd.y (h : Hd) : Value := .slice h.b h.m h.d
/-- a row: how it lies, and what it is -/
structure P where
  h : Hd
  r : R
instance : Inhabited P := ⟨⟨⟨none, 0, 0, none, 0, 0⟩, ⟨[], []⟩⟩⟩
instance : Enc P := ⟨2, by decide, fun p => [p.h.x, p.h.y], fun _ => rfl, fun a u h => by simp at h; rcases h with rfl | rfl <;> rfl⟩
def tP : RowT P := ⟨51, 28, default, .agg #[.slice none 0 0, .slice none 0 0], 48, Tryz.underlying28, by kernel_rfl, by rfl, by decide⟩
theorem rd_P {w : World} {ad : Option Addr} {n cap : Nat} {l : List P} (h : RdG w (.slice ad n cap) l) (i : Nat) (hi : i < l.length) : ∃ g o, ad = some ⟨g, o, none⟩ ∧ w.cell? ⟨g, o + i * 2, none⟩ = some l[i].h.x ∧ w.cell? ⟨g, o + i * 2 + 1, none⟩ = some l[i].h.y := by
  obtain ⟨g, o, e, c⟩ := h.at i hi
  exact ⟨g, o, e, c 0 _ rfl, c 1 _ rfl⟩
/-- what the headers reach -/
def RdRow (w : World) (p : P) : Prop := RdG w p.h.x p.r.v ∧ RdG w p.h.y p.r.t
theorem RdRow.ext {w w' : World} {p : P} (h : RdRow w p) (e : Ext w w') : RdRow w' p := ⟨h.1.ext e, h.2.ext e⟩
def RdAll (w : World) (ps : List P) : Prop := ∀ p ∈ ps, RdRow w p
theorem RdAll.ext {w w' : World} {ps : List P} (h : RdAll w ps) (e : Ext w w') : RdAll w' ps := fun p hp => (h p hp).ext e
def rows (ps : List P) : List R := ps.map P.r
theorem rows_len (ps : List P) : (rows ps).length = ps.length := List.length_map _
theorem rows_at (ps : List P) (i : Nat) (h : i < ps.length) : (rows ps)[i]'(by rw [rows_len]; exact h) = ps[i].r := by simp [rows]
theorem rows_app (a b : List P) : rows (a ++ b) = rows a ++ rows b := List.map_append
theorem rows_take (a : List P) (k : Nat) : rows (a.take k) = (rows a).take k := List.map_take
theorem rows_drop (a : List P) (k : Nat) : rows (a.drop k) = (rows a).drop k := List.map_drop
theorem RdG.drop {α : Type} [Enc α] {w : World} {g o n cap i : Nat} {l : List α} (h : RdG w (.slice (some ⟨g, o, none⟩) n cap) l) (hi : i ≤ n) : RdG w (.slice (some ⟨g, o + i * Enc.sz α, none⟩) (n - i) (cap - i)) (l.drop i) := by
  obtain ⟨ad', cap', e, h1, h2, h3, h4⟩ := h
  simp only [Value.slice.injEq] at e
  obtain ⟨rfl, rfl, rfl⟩ := e
  refine ⟨_, cap - i, by rw [List.length_drop], by rw [List.length_drop]; omega, by omega, (fun h => by cases h), fun j hj => ?_⟩
  rw [List.length_drop] at hj
  obtain ⟨g', o', e, c⟩ := h4 (i + j) (by omega)
  simp only [Option.some.injEq, Addr.mk.injEq, and_true] at e
  obtain ⟨rfl, rfl⟩ := e
  refine ⟨_, _, rfl, fun k u hu => ?_⟩
  rw [List.getElem_drop] at hu
  have := c k u hu
  rw [← this]
  congr 2
  rw [Nat.add_mul]; omega
/-- two bags that a call hands back -/
def DP (w : World) (l g : List R) (e : Ending) (w' : World) : Prop := ∃ v1 v2 os ot, e = .returned (.tuple #[v1, v2]) ∧ (RdG w' v1 os ∧ RdAll w' os ∧ rows os = l) ∧ (RdG w' v2 ot ∧ RdAll w' ot ∧ rows ot = g) ∧ Ext w w'
/-- an empty slice that the code writes out -/
theorem own_lit0 {α : Type} [Enc α] (e : TypeId) {W X : World} (h : Ext W X) (n : Nat) (hn : n = X.heap.size) : OwnG e W (X.alloc (.cells #[] e)) (.slice (some ⟨n, 0, none⟩) 0 0) ([] : List α) := by
  subst hn
  exact ⟨World.ownsRow_lit X #[] 0 h.2.2 (Nat.zero_le _) (by simp), h.alloc _ _⟩
set_option maxHeartbeats 1000000 in
theorem comp_gw (x y : R) (va ta vb tb : Value) (w : World) (hva : RdG w va x.v) (hta : RdG w ta x.t) (hvb : RdG w vb y.v) (htb : RdG w tb y.t) :
    Calls Tryz.prog 54 #[.agg #[va, ta], .agg #[vb, tb]] w fun e w' => e = .returned (.int .i64 (cmpW x y)) ∧ Gw w w' := by
  obtain ⟨a1, c1, rfl, _, _⟩ := hva.shape
  obtain ⟨a2, c2, rfl, _, _⟩ := hta.shape
  obtain ⟨a3, c3, rfl, _, _⟩ := hvb.shape
  obtain ⟨a4, c4, rfl, _, _⟩ := htb.shape
  have H1 := Lib.hid hva
  have H2 := Lib.hid hta
  have H3 := Lib.hid hvb
  have H4 := Lib.hid htb
  have hlen1 := x.v.length
  clear hva hta hvb htb
  obtain ⟨n1, e1⟩ : ∃ n, n = x.v.length := ⟨_, rfl⟩
  obtain ⟨n2, e2⟩ : ∃ n, n = x.t.length := ⟨_, rfl⟩
  obtain ⟨n3, e3⟩ : ∃ n, n = y.v.length := ⟨_, rfl⟩
  obtain ⟨n4, e4⟩ : ∃ n, n = y.t.length := ⟨_, rfl⟩
  rw [← e1] at H1 ⊢
  rw [← e2] at H2 ⊢
  rw [← e3] at H3 ⊢
  rw [← e4] at H4 ⊢
  clear e1 e2 e3 e4
  by_cases hz : cmpR x.v y.v = 0
  · have HR := Lib.hid (show cmpW x y = cmpN x.t y.t by unfold cmpW; rw [if_pos hz])
    have hcr := crows_gw x.v y.v
    rw [hz] at hcr
    have HC := Lib.hid hcr
    clear hcr hz
    go_enter Tryz.func54, Tryz.ntmps54
    go_wp2_with fail
    refine (HC.out _ _ _ (H1.out.ext (gw2 _ _ _).ext) (H3.out.ext (gw2 _ _ _).ext)).mono ?_; rintro e w1 ⟨rfl, hg⟩
    have hgw := Lib.hid ((gw2 w (.cells #[.slice a1 n1 c1, .slice a2 n2 c2] 51) (.cells #[.slice a3 n3 c3, .slice a4 n4 c4] 51)).trans hg)
    have k1 := hg.ext.keeps (((Ext.refl _).alloc _ _).keeps (al1 w (.slice a1 n1 c1) (.slice a2 n2 c2) 51))
    have k2 := hg.ext.keeps (al1 (w.alloc (.cells #[.slice a1 n1 c1, .slice a2 n2 c2] 51)) (.slice a3 n3 c3) (.slice a4 n4 c4) 51)
    rw [alsz] at k2
    have s1 : w.heap.size < w1.heap.size := World.block_lt_of_cell? _ _ k1
    have s2 : w.heap.size + 1 < w1.heap.size := World.block_lt_of_cell? _ _ k2
    clear hg
    go_wp2_with fail
    refine (cfn_gw x.t y.t _ _ _ (H2.out.ext hgw.out.ext) (H4.out.ext hgw.out.ext)).mono ?_; rintro e w2 ⟨rfl, hg2⟩
    go_wp2_with fail
    go_ret
    exact ⟨ret_int HR.out.symm, hgw.out.trans hg2⟩
  · have HR := Lib.hid (show cmpW x y = cmpR x.v y.v by unfold cmpW; rw [if_neg hz])
    have hz1 : (cmpR x.v y.v == 0) = false := by simpa using hz
    go_enter Tryz.func54, Tryz.ntmps54
    go_wp2_with fail
    refine (crows_gw x.v y.v _ _ _ (H1.out.ext (gw2 _ _ _).ext) (H3.out.ext (gw2 _ _ _).ext)).mono ?_; rintro e w1 ⟨rfl, hg⟩
    go_wp2_with fail
    go_ret
    exact ⟨ret_int HR.out.symm, (gw2 _ _ _).trans hg⟩
end Go.Proofs.YtbplapkcleipiaaGreatDoor
/- Contracts of Valid, of the program and of the reference. -/
namespace Go.Proofs.YtbplapkcleipiaaGreatDoor
open Go.ChangeShapes Go.WideShapes Go.ChangeAt Go.RowKit

theorem kinds (k : Int) : k = 0 ∨ k = 1 ∨ k = 2 ∨ k = 3 ∨ (k ≠ 0 ∧ k ≠ 1 ∧ k ≠ 2 ∧ k ≠ 3) := by omega
set_option maxHeartbeats 1000000 in
theorem vld_val (v : V) (w : World) : Calls Tryz.prog 151 #[vv v] w fun e w' => e = .returned (.bool (vldB v)) ∧ Grown w w' := by
  obtain ⟨k, n, s⟩ := v
  rcases kinds k with rfl | rfl | rfl | rfl | ⟨h0, h1, h2, h3⟩
  all_goals
    go_enter Tryz.func151, Tryz.ntmps151
    go_wp2
    all_goals
      go_ret
      exact ⟨ret_bool (by first | (simp [vldB, *]; done) | (simp_all [vldB]; done) | (simp [vldB, *]; omega) | (rw [Bool.eq_iff_iff]; simp [vldB, *] <;> omega)), (Grown.refl _).alloc _ _⟩
end Go.Proofs.YtbplapkcleipiaaGreatDoor
/- Small functions of the program: operators, indexes, legal operands, types. -/
namespace Go.Proofs.YtbplapkcleipiaaGreatDoor
open Go.ChangeShapes Go.WideShapes Go.ChangeAt Go.RowKit

abbrev xv (x : X) : Value := .agg #[.int .i64 x.op, .int .i64 x.a, .int .i64 x.b, .int .i64 x.col, .int .i64 x.c.k, .int .i64 x.c.n, sv x.c.s]
abbrev kv (p : Int × Int) : Value := .agg #[.int .i64 p.1, .int .i64 p.2]
theorem opc (op : Int) : op = 1 ∨ op = 2 ∨ op = 3 ∨ op = 4 ∨ op = 5 ∨ op = 6 ∨ op = 7 ∨ op = 8 ∨ op = 9 ∨ op = 10 ∨ op = 11 ∨
    (op ≠ 1 ∧ op ≠ 2 ∧ op ≠ 3 ∧ op ≠ 4 ∧ op ≠ 5 ∧ op ≠ 6 ∧ op ≠ 7 ∧ op ≠ 8 ∧ op ≠ 9 ∧ op ≠ 10 ∧ op ≠ 11) := by omega
theorem ari_none (op : Int) (h1 : op ≠ 1) (h2 : op ≠ 2) (h3 : op ≠ 3) (h4 : op ≠ 4) (h5 : op ≠ 5) (h6 : op ≠ 6) (h7 : op ≠ 7) (h8 : op ≠ 8) (h9 : op ≠ 9) (h10 : op ≠ 10) (h11 : op ≠ 11) : ari op = -1 := by
  unfold ari; rw [if_neg (by omega), if_neg (by omega), if_neg (by omega)]
set_option maxHeartbeats 1000000 in
theorem ari_prg (op : Int) (w : World) : Calls Tryz.prog 150 #[.int .i64 op] w fun e w' => e = .returned (.int .i64 (ari op)) ∧ w = w' := by
  rcases opc op with rfl | rfl | rfl | rfl | rfl | rfl | rfl | rfl | rfl | rfl | rfl | ⟨h1, h2, h3, h4, h5, h6, h7, h8, h9, h10, h11⟩
  case inr.inr.inr.inr.inr.inr.inr.inr.inr.inr.inr =>
    have H := Lib.hid (ari_none op h1 h2 h3 h4 h5 h6 h7 h8 h9 h10 h11)
    go_enter Tryz.func150, Tryz.ntmps150
    go_wp2
    go_ret
    exact ⟨ret_int H.out.symm, rfl⟩
  all_goals
    go_enter Tryz.func150, Tryz.ntmps150
    go_wp2
    go_ret
    exact ⟨ret_int (by decide), rfl⟩
theorem isx_prg (i n : Int) (w : World) : Calls Tryz.prog 140 #[.int .i64 i, .int .i64 n] w fun e w' => e = .returned (.bool (isIx i n)) ∧ w = w' := by
  by_cases h0 : 0 ≤ i
  · by_cases h1 : i < n
    · have H := Lib.hid (show isIx i n = true by rw [isIx_iff]; exact ⟨h0, h1⟩)
      go_enter Tryz.func140, Tryz.ntmps140
      go_wp2
      go_ret
      exact ⟨ret_bool H.out.symm, rfl⟩
    · have H := Lib.hid (show isIx i n = false by rw [isIx_no]; omega)
      go_enter Tryz.func140, Tryz.ntmps140
      go_wp2
      go_ret
      exact ⟨ret_bool H.out.symm, rfl⟩
  · have H := Lib.hid (show isIx i n = false by rw [isIx_no]; omega)
    go_enter Tryz.func140, Tryz.ntmps140
    go_wp2
    go_ret
    exact ⟨ret_bool H.out.symm, rfl⟩
theorem acc_prg (want k : Int) (w : World) : Calls Tryz.prog 163 #[.int .i64 want, .int .i64 k] w fun e w' => e = .returned (.bool (accB want k)) ∧ w = w' := by
  by_cases h0 : k = want
  · have H := Lib.hid (show accB want k = true by simp [accB, h0])
    subst h0
    go_enter Tryz.func163, Tryz.ntmps163
    go_wp2
    go_ret
    exact ⟨ret_bool H.out.symm, rfl⟩
  · by_cases h1 : k = 0
    · have H := Lib.hid (show accB want k = true by simp [accB, h1])
      subst h1
      go_enter Tryz.func163, Tryz.ntmps163
      go_wp2
      go_ret
      exact ⟨ret_bool H.out.symm, rfl⟩
    · have H := Lib.hid (show accB want k = false by simp [accB, h0, h1])
      go_enter Tryz.func163, Tryz.ntmps163
      go_wp2
      go_ret
      exact ⟨ret_bool (by rw [H.out]; simp [h0, h1]), rfl⟩
set_option maxHeartbeats 1000000 in
theorem lgA_prg (x : X) (i : Int) (w : World) : Calls Tryz.prog 155 #[xv x, .int .i64 i] w fun e w' => e = .returned (.bool (lgA x i)) ∧ Grown w w' := by
  obtain ⟨op, a, b, col, ⟨k, n, s⟩⟩ := x
  have hA := ari_prg op
  have hI := isx_prg a i
  have hv := ari_vals op
  by_cases h : 1 ≤ ari op
  · have H := Lib.hid (show lgA ⟨op, a, b, col, ⟨k, n, s⟩⟩ i = isIx a i by simp [lgA, h])
    generalize ari op = r at *
    have HA := Lib.hid hA
    have HI := Lib.hid hI
    clear hA hI hv
    go_enter Tryz.func155, Tryz.ntmps155
    go_wp2_with fail
    refine (HA.out _).mono ?_; rintro e w1 ⟨rfl, rfl⟩
    go_wp2_with fail
    refine (HI.out _).mono ?_; rintro e w1 ⟨rfl, rfl⟩
    go_wp2_with fail
    go_ret
    exact ⟨ret_bool H.out.symm, (Grown.refl _).alloc _ _⟩
  · have H := Lib.hid (show lgA ⟨op, a, b, col, ⟨k, n, s⟩⟩ i = false by simp [lgA, h])
    generalize ari op = r at *
    have HA := Lib.hid hA
    clear hA hI hv
    go_enter Tryz.func155, Tryz.ntmps155
    go_wp2_with fail
    refine (HA.out _).mono ?_; rintro e w1 ⟨rfl, rfl⟩
    go_wp2_with fail
    go_ret
    exact ⟨ret_bool H.out.symm, (Grown.refl _).alloc _ _⟩
set_option maxHeartbeats 1000000 in
theorem lgB_prg (x : X) (i : Int) (w : World) : Calls Tryz.prog 156 #[xv x, .int .i64 i] w fun e w' => e = .returned (.bool (lgB x i)) ∧ Grown w w' := by
  obtain ⟨op, a, b, col, ⟨k, n, s⟩⟩ := x
  have hA := ari_prg op
  have hI := isx_prg b i
  by_cases h : ari op = 2
  · have H := Lib.hid (show lgB ⟨op, a, b, col, ⟨k, n, s⟩⟩ i = isIx b i by simp [lgB, h])
    rw [h] at hA
    have HA := Lib.hid hA
    have HI := Lib.hid hI
    clear hA hI h
    go_enter Tryz.func156, Tryz.ntmps156
    go_wp2_with fail
    refine (HA.out _).mono ?_; rintro e w1 ⟨rfl, rfl⟩
    go_wp2_with fail
    refine (HI.out _).mono ?_; rintro e w1 ⟨rfl, rfl⟩
    go_wp2_with fail
    go_ret
    exact ⟨ret_bool H.out.symm, (Grown.refl _).alloc _ _⟩
  · have H := Lib.hid (show lgB ⟨op, a, b, col, ⟨k, n, s⟩⟩ i = false by simp [lgB, h])
    generalize ari op = r at *
    have HA := Lib.hid hA
    clear hA hI
    go_enter Tryz.func156, Tryz.ntmps156
    go_wp2_with fail
    refine (HA.out _).mono ?_; rintro e w1 ⟨rfl, rfl⟩
    go_wp2_with fail
    go_ret
    exact ⟨ret_bool H.out.symm, (Grown.refl _).alloc _ _⟩
theorem lgl_one {x : X} {i : Int} (h : ari x.op = 1) : lgl x i = lgA x i := by simp [lgl, lgA, h]
theorem lgl_two {x : X} {i : Int} (h : ari x.op = 2) : lgl x i = (lgA x i && lgB x i) := by simp [lgl, lgA, lgB, h]
theorem lgl_none {x : X} {i : Int} (h : ari x.op < 1) : lgl x i = true := by simp [lgl]; omega
set_option maxHeartbeats 2000000 in
theorem lgl_prg (x : X) (i : Int) (w : World) : Calls Tryz.prog 152 #[xv x, .int .i64 i] w fun e w' => e = .returned (.bool (lgl x i)) ∧ Grown w w' := by
  have hv := ari_vals x.op
  have hA := ari_prg x.op
  have hLA := lgA_prg x i
  have hLB := lgB_prg x i
  have h1 := @lgl_one x i
  have h2 := @lgl_two x i
  have h0 := @lgl_none x i
  obtain ⟨op, a, b, col, ⟨k, n, s⟩⟩ := x
  simp only at hv hA h0 h1 h2
  have HLA := Lib.hid hLA
  have HLB := Lib.hid hLB
  clear hLA hLB
  rcases hv with h | h | h | h
  · rw [h] at hA
    have HA := Lib.hid hA
    have H := Lib.hid (h0 (by omega))
    clear hA h h0 h1 h2
    go_enter Tryz.func152, Tryz.ntmps152
    go_wp2_with fail
    refine (HA.out _).mono ?_; rintro e w1 ⟨rfl, rfl⟩
    go_wp2_with fail
    go_ret
    exact ⟨ret_bool H.out.symm, (Grown.refl _).alloc _ _⟩
  · rw [h] at hA
    have HA := Lib.hid hA
    have H := Lib.hid (h0 (by omega))
    clear hA h h0 h1 h2
    go_enter Tryz.func152, Tryz.ntmps152
    go_wp2_with fail
    refine (HA.out _).mono ?_; rintro e w1 ⟨rfl, rfl⟩
    go_wp2_with fail
    go_ret
    exact ⟨ret_bool H.out.symm, (Grown.refl _).alloc _ _⟩
  · rw [h] at hA
    have HA := Lib.hid hA
    have H := Lib.hid (h1 h)
    clear hA h h0 h1 h2
    go_enter Tryz.func152, Tryz.ntmps152
    go_wp2_with fail
    refine (HA.out _).mono ?_; rintro e w1 ⟨rfl, rfl⟩
    go_wp2_with fail
    refine (HLA.out _).mono ?_; rintro e w1 ⟨rfl, hg⟩
    go_wp2_with fail
    go_ret
    exact ⟨ret_bool H.out.symm, grown_trans ((Grown.refl _).alloc _ _) hg⟩
  · rw [h] at hA
    have HA := Lib.hid hA
    have H := Lib.hid (h2 h)
    clear hA h h0 h1 h2
    go_enter Tryz.func152, Tryz.ntmps152
    go_wp2_with fail
    refine (HA.out _).mono ?_; rintro e w1 ⟨rfl, rfl⟩
    cases hl : lgA ⟨op, a, b, col, ⟨k, n, s⟩⟩ i with
    | false =>
      have HLA' := Lib.hid (hl ▸ HLA.out)
      rw [hl] at H
      clear hl
      go_wp2_with fail
      refine (HLA'.out _).mono ?_; rintro e w1 ⟨rfl, hg⟩
      go_wp2_with fail
      go_ret
      exact ⟨ret_bool H.out.symm, grown_trans ((Grown.refl _).alloc _ _) hg⟩
    | true =>
      have HLA' := Lib.hid (hl ▸ HLA.out)
      rw [hl] at H
      clear hl
      go_wp2_with fail
      refine (HLA'.out _).mono ?_; rintro e w2 ⟨rfl, hg⟩
      obtain ⟨hc, hf⟩ := gcell hg
      have hs : w.heap.size < w2.heap.size := by have := hg.2.2; rw [alsz] at this; omega
      go_wp2_with fail
      refine (HLB.out _).mono ?_; rintro e w3 ⟨rfl, hg2⟩
      go_wp2_with fail
      go_ret
      exact ⟨ret_bool H.out.symm, grown_trans (grown_trans ((Grown.refl _).alloc _ _) hg) hg2⟩
end Go.Proofs.YtbplapkcleipiaaGreatDoor
/- How numbers, marks, values, expressions and types lie in cells. -/
namespace Go.Proofs.YtbplapkcleipiaaGreatDoor
open Go.ChangeShapes Go.WideShapes Go.ChangeAt Go.RowKit

instance : Enc Bool := ⟨1, by decide, fun b => [.bool b], fun _ => rfl, fun a u h => by simp at h; subst h; rfl⟩
instance : Enc (Int × Int) := ⟨2, by decide, fun p => [.int .i64 p.1, .int .i64 p.2], fun _ => rfl, fun a u h => by simp at h; rcases h with rfl | rfl <;> rfl⟩
instance : Enc X := ⟨7, by decide, fun x => [.int .i64 x.op, .int .i64 x.a, .int .i64 x.b, .int .i64 x.col, .int .i64 x.c.k, .int .i64 x.c.n, sv x.c.s], fun _ => rfl,
  fun a u h => by simp at h; rcases h with rfl | rfl | rfl | rfl | rfl | rfl | rfl <;> rfl⟩
def tB : RowT Bool := ⟨4, 198, false, .bool false, 1, Tryz.underlying198, by kernel_rfl, by rfl, by decide⟩
def tK : RowT (Int × Int) := ⟨196, 194, (0, 0), .agg #[.int .i64 0, .int .i64 0], 16, Tryz.underlying194, by kernel_rfl, by rfl, by decide⟩
def tX : RowT X := ⟨64, 24, nulX, .agg #[.int .i64 0, .int .i64 0, .int .i64 0, .int .i64 0, .int .i64 0, .int .i64 0, sv []], 64, Tryz.underlying24, by kernel_rfl, by rfl, by decide⟩
/- the cells of one element, by the element's kind -/
theorem rd_B {w : World} {ad : Option Addr} {n cap : Nat} {l : List Bool} (h : RdG w (.slice ad n cap) l) (i : Nat) (hi : i < l.length) : ∃ g o, ad = some ⟨g, o, none⟩ ∧ w.cell? ⟨g, o + i, none⟩ = some (.bool l[i]) := by
  obtain ⟨g, o, e, c⟩ := h.at i hi
  exact ⟨g, o, e, by have := c 0 _ rfl; simpa [Enc.sz] using this⟩
theorem rd_K {w : World} {ad : Option Addr} {n cap : Nat} {l : List (Int × Int)} (h : RdG w (.slice ad n cap) l) (i : Nat) (hi : i < l.length) : ∃ g o, ad = some ⟨g, o, none⟩ ∧ w.cell? ⟨g, o + i * 2, none⟩ = some (.int .i64 l[i].1) ∧ w.cell? ⟨g, o + i * 2 + 1, none⟩ = some (.int .i64 l[i].2) := by
  obtain ⟨g, o, e, c⟩ := h.at i hi
  exact ⟨g, o, e, c 0 _ rfl, c 1 _ rfl⟩
theorem rd_X {w : World} {ad : Option Addr} {n cap : Nat} {l : List X} (h : RdG w (.slice ad n cap) l) (i : Nat) (hi : i < l.length) : ∃ g o, ad = some ⟨g, o, none⟩ ∧ w.cell? ⟨g, o + i * 7, none⟩ = some (.int .i64 l[i].op) ∧ w.cell? ⟨g, o + i * 7 + 1, none⟩ = some (.int .i64 l[i].a) ∧ w.cell? ⟨g, o + i * 7 + 2, none⟩ = some (.int .i64 l[i].b) ∧ w.cell? ⟨g, o + i * 7 + 3, none⟩ = some (.int .i64 l[i].col) ∧
    w.cell? ⟨g, o + i * 7 + 4, none⟩ = some (.int .i64 l[i].c.k) ∧ w.cell? ⟨g, o + i * 7 + 5, none⟩ = some (.int .i64 l[i].c.n) ∧ w.cell? ⟨g, o + i * 7 + 6, none⟩ = some (sv l[i].c.s) := by
  obtain ⟨g, o, e, c⟩ := h.at i hi
  exact ⟨g, o, e, c 0 _ rfl, c 1 _ rfl, c 2 _ rfl, c 3 _ rfl, c 4 _ rfl, c 5 _ rfl, c 6 _ rfl⟩
end Go.Proofs.YtbplapkcleipiaaGreatDoor
