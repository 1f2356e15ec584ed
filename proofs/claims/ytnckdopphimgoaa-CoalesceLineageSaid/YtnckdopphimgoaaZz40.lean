/- The reference's CompareRows, CompareInts, Less and SameRow. -/
import Derived.Test.YtnckdopphimgoaaZz20
namespace Go.Proofs.Ytnckdopphimgoaa
open Go.ChangeShapes Go.WideShapes Go.ChangeAt Go.RowKit

/-- the reference's Compare over an elder world -/
theorem cmpRG (W0 : World) (a b : V) (w : World) (h : Ext W0 w) : Calls Try.prog 12 #[vv a, vv b] w fun e w' => e = .returned (.int .i64 (cmpV a b)) ∧ (∀ b o, b < W0.heap.size → w'.cell? ⟨b, o, none⟩ = W0.cell? ⟨b, o, none⟩) ∧ Ext W0 w' :=
  heldE W0 ((cmp_ref a b w).mono fun _ _ ⟨e, g⟩ => ⟨e, ext_of_grown g⟩) h
def ClR8 {α : Type} (w : World) (a b : List α) (i : Value) (wr : World) : Prop := ∃ k : Nat, k ≤ a.length ∧ k ≤ b.length ∧ i = .int .i64 k ∧ Hid (a.take k = b.take k) ∧ Ext w wr
set_option maxHeartbeats 4000000 in
set_option maxRecDepth 100000 in
theorem crowsG_ref (a b : List V) (va vb : Value) (w : World) (hra : RdG w va a) (hrb : RdG w vb b) : Calls Try.prog 7 #[va, vb] w fun e w' => e = .returned (.int .i64 (cmpR a b)) ∧ Ext w w' := by
  obtain ⟨ad, cap, rfl, h1, h2⟩ := hra.shape
  obtain ⟨bd, bcap, rfl, i1, i2⟩ := hrb.shape
  have H4 := Lib.hid hra
  have I4 := Lib.hid hrb
  clear hra hrb
  obtain ⟨n, hn⟩ : ∃ n, n = a.length := ⟨_, rfl⟩
  obtain ⟨m, hm⟩ : ∃ m, m = b.length := ⟨_, rfl⟩
  have HN := Lib.hid hn
  have HM := Lib.hid hm
  rw [← hn] at h1 H4 ⊢
  rw [← hm] at i1 I4 ⊢
  rw [cr_lex]
  clear hn hm
  unfold maxLen at h2 i2
  go_enter Try.func7, Try.ntmps7
  go_wp2_with fail
  go_loopw [5] (ClR8 w a b) (fun i _ => n - (intOf i).toNat)
  case atStart => exact ⟨0, Nat.zero_le _, Nat.zero_le _, rfl, Lib.hid (by simp), Ext.refl _⟩
  case round =>
    obtain ⟨k, hk, hkb, rfl, HT, hE⟩ := hrel
    have hkn : k ≤ n := by rw [HN.out]; exact hk
    have hkm : k ≤ m := by rw [HM.out]; exact hkb
    by_cases hex : k < n ∧ k < m
    · obtain ⟨hlt, hlt2⟩ := hex
      have hlt' : k < a.length := by rw [← HN.out]; exact hlt
      obtain ⟨g, o, rfl, c0', c1', c2'⟩ := rd_V H4.out k hlt'
      have hlt2' : k < b.length := by rw [← HM.out]; exact hlt2
      obtain ⟨g2, o2, rfl, d0', d1', d2'⟩ := rd_V I4.out k hlt2'
      have c0 := hE.keeps c0'
      have c1 := hE.keeps c1'
      have c2 := hE.keeps c2'
      have d0 := hE.keeps d0'
      have d1 := hE.keeps d1'
      have d2 := hE.keeps d2'
      have HC := Lib.hid (lx_at cv_ord a b k hlt' hlt2' HT.out)
      have HX := Lib.hid (lx_next cv_ord a b k hlt' hlt2' HT.out)
      clear d0' d1' d2' c0' c1' c2'
      generalize a[k] = x at *
      generalize b[k] = y at *
      obtain ⟨xk, xn, xs⟩ := x
      obtain ⟨yk, yn, ys⟩ := y
      simp only at c0 c1 c2 d0 d1 d2
      have K0 := Lib.hid c0
      have K1 := Lib.hid c1
      have K2 := Lib.hid c2
      have K3 := Lib.hid d0
      have K4 := Lib.hid d1
      have K5 := Lib.hid d2
      go_wp2_with fail
      go_region_held3 (fun w' => w'.cell? ⟨g, o + k * 3, none⟩ = some (.int .i64 xk) ∧ w'.cell? ⟨g, o + k * 3 + 1, none⟩ = some (.int .i64 xn) ∧ w'.cell? ⟨g, o + k * 3 + 2, none⟩ = some (sv xs) ∧ w'.cell? ⟨g2, o2 + k * 3, none⟩ = some (.int .i64 yk) ∧ w'.cell? ⟨g2, o2 + k * 3 + 1, none⟩ = some (.int .i64 yn) ∧ w'.cell? ⟨g2, o2 + k * 3 + 2, none⟩ = some (sv ys)) (first | exact ⟨K0.out, K1.out, K2.out, K3.out, K4.out, K5.out⟩ | go_keep)
        (first | (go_at_call 12; refine (cmpRG wr ⟨xk, xn, xs⟩ ⟨yk, yn, ys⟩ _ ?_).mono ?_; (first | assumption | exact Ext.refl _ | exact (Ext.refl _).drew); rintro e w3 ⟨rfl, q0, qG⟩; have f0 := qG.keeps K0.out; have f1 := qG.keeps K1.out; have f2 := qG.keeps K2.out; have f3 := qG.keeps K3.out; have f4 := qG.keeps K4.out; have f5 := qG.keeps K5.out))
      by_cases hz : cmpV ⟨xk, xn, xs⟩ ⟨yk, yn, ys⟩ = 0
      · have HX' := Lib.hid (HX.out hz)
        have hz1 : (cmpV ⟨xk, xn, xs⟩ ⟨yk, yn, ys⟩ == 0) = true := by simpa using hz
        clear hz
        go_wp2_with fail
        go_roundw
        case rel => exact ⟨k + 1, hlt', hlt2', by go_num, HX', hE.trans qG⟩
        case measure => simp [intOf]; omega
      · have HR := Lib.hid (show lexC cmpV a b = cmpV ⟨xk, xn, xs⟩ ⟨yk, yn, ys⟩ by rw [HC.out, if_neg hz])
        have hz1 : (cmpV ⟨xk, xn, xs⟩ ⟨yk, yn, ys⟩ == 0) = false := by simpa using hz
        go_wp2_with fail
        try simp only [Exit.inBlock, Exit.then]
        go_ret
        exact ⟨ret_int HR.out.symm, hE.trans qG⟩
    · have hR := lx_end cv_ord a b k hk hkb HT.out (by have := HN.out; have := HM.out; omega)
      have hge : ¬ k < n ∨ (k < n ∧ ¬ k < m) := by
        by_cases e : k < n
        · exact Or.inr ⟨e, fun e2 => hex ⟨e, e2⟩⟩
        · exact Or.inl e
      clear hex
      rcases hge with hx | ⟨hx, hx2⟩
      all_goals
        by_cases hnm : n < m
        · have HR := Lib.hid (show lexC cmpV a b = -1 by rw [hR, if_pos (by rw [← HN.out, ← HM.out]; exact hnm)])
          clear hR
          first
            | (exfalso; omega)
            | (go_wp2_with fail
               try simp only [Exit.inBlock, Exit.then]
               go_ret
               exact ⟨ret_int HR.out.symm, hE⟩)
        · by_cases hmn : m < n
          · have HR := Lib.hid (show lexC cmpV a b = 1 by rw [hR, if_neg (by rw [← HN.out, ← HM.out]; exact hnm), if_pos (by rw [← HN.out, ← HM.out]; exact hmn)])
            clear hR
            go_wp2_with fail
            try simp only [Exit.inBlock, Exit.then]
            go_ret
            exact ⟨ret_int HR.out.symm, hE⟩
          · have HR := Lib.hid (show lexC cmpV a b = 0 by rw [hR, if_neg (by rw [← HN.out, ← HM.out]; exact hnm), if_neg (by rw [← HN.out, ← HM.out]; exact hmn)])
            clear hR
            go_wp2_with fail
            try simp only [Exit.inBlock, Exit.then]
            go_ret
            exact ⟨ret_int HR.out.symm, hE⟩
set_option maxHeartbeats 4000000 in
set_option maxRecDepth 100000 in
theorem cints_ref (a b : List Int) (va vb : Value) (w : World) (hra : RdG w va a) (hrb : RdG w vb b) : Calls Try.prog 24 #[va, vb] w fun e w' => e = .returned (.int .i64 (cmpN a b)) ∧ Ext w w' := by
  obtain ⟨ad, cap, rfl, h1, h2⟩ := hra.shape
  obtain ⟨bd, bcap, rfl, i1, i2⟩ := hrb.shape
  have H4 := Lib.hid hra
  have I4 := Lib.hid hrb
  clear hra hrb
  obtain ⟨n, hn⟩ : ∃ n, n = a.length := ⟨_, rfl⟩
  obtain ⟨m, hm⟩ : ∃ m, m = b.length := ⟨_, rfl⟩
  have HN := Lib.hid hn
  have HM := Lib.hid hm
  rw [← hn] at h1 H4 ⊢
  rw [← hm] at i1 I4 ⊢
  unfold cmpN
  clear hn hm
  unfold maxLen at h2 i2
  go_enter Try.func24, Try.ntmps24
  go_wp2_with fail
  go_loopw [5] (ClR8 w a b) (fun i _ => n - (intOf i).toNat)
  case atStart => exact ⟨0, Nat.zero_le _, Nat.zero_le _, rfl, Lib.hid (by simp), Ext.refl _⟩
  case round =>
    obtain ⟨k, hk, hkb, rfl, HT, hE⟩ := hrel
    have hkn : k ≤ n := by rw [HN.out]; exact hk
    have hkm : k ≤ m := by rw [HM.out]; exact hkb
    by_cases hex : k < n ∧ k < m
    · obtain ⟨hlt, hlt2⟩ := hex
      have hlt' : k < a.length := by rw [← HN.out]; exact hlt
      obtain ⟨g, o, rfl, c0'⟩ := rd_I H4.out k hlt'
      have hlt2' : k < b.length := by rw [← HM.out]; exact hlt2
      obtain ⟨g2, o2, rfl, d0'⟩ := rd_I I4.out k hlt2'
      have c0 := hE.keeps c0'
      have d0 := hE.keeps d0'
      have HC := Lib.hid (lx_at ci_ord a b k hlt' hlt2' HT.out)
      have HX := Lib.hid (lx_next ci_ord a b k hlt' hlt2' HT.out)
      have hi0 : (0 : Int) ≤ (k : Int) := Int.natCast_nonneg _
      have hi1 : (k : Int) < (n : Int) := by omega
      have hi2 : (k : Int) < (m : Int) := by omega
      clear d0' c0'
      generalize a[k] = x at *
      generalize b[k] = y at *
      rcases ci_vals x y with ⟨hv, hxy⟩ | ⟨hv, hxy⟩ | ⟨hv, hxy⟩
      · have HR := Lib.hid (show lexC Lib.compareInt a b = -1 by rw [HC.out, hv]; rfl)
        clear hv
        go_wp2_with fail
        go_quiet (fail)
        go_wp2_with fail
        try simp only [Exit.inBlock, Exit.then]
        go_ret
        exact ⟨ret_int HR.out.symm, ⟨hE.1, hE.2.1, hE.2.2⟩⟩
      · subst hxy
        have HX' := Lib.hid (HX.out hv)
        clear hv
        have hir : ¬ x < x := by omega
        go_wp2_with fail
        go_quiet (fail)
        go_wp2_with fail
        go_quiet (fail)
        go_wp2_with fail
        go_roundw
        case rel => exact ⟨k + 1, hlt', hlt2', by go_num, HX', ⟨hE.1, hE.2.1, hE.2.2⟩⟩
        case measure => simp [intOf]; omega
      · have HR := Lib.hid (show lexC Lib.compareInt a b = 1 by rw [HC.out, hv]; rfl)
        clear hv
        have hir : ¬ x < y := by omega
        go_wp2_with fail
        go_quiet (fail)
        go_wp2_with fail
        go_quiet (fail)
        go_wp2_with fail
        try simp only [Exit.inBlock, Exit.then]
        go_ret
        exact ⟨ret_int HR.out.symm, ⟨hE.1, hE.2.1, hE.2.2⟩⟩
    · have hR := lx_end ci_ord a b k hk hkb HT.out (by have := HN.out; have := HM.out; omega)
      have hge : ¬ k < n ∨ (k < n ∧ ¬ k < m) := by
        by_cases e : k < n
        · exact Or.inr ⟨e, fun e2 => hex ⟨e, e2⟩⟩
        · exact Or.inl e
      clear hex
      rcases hge with hx | ⟨hx, hx2⟩
      all_goals
        by_cases hnm : n < m
        · have HR := Lib.hid (show lexC Lib.compareInt a b = -1 by rw [hR, if_pos (by rw [← HN.out, ← HM.out]; exact hnm)])
          clear hR
          first
            | (exfalso; omega)
            | (go_wp2_with fail
               try simp only [Exit.inBlock, Exit.then]
               go_ret
               exact ⟨ret_int HR.out.symm, hE⟩)
        · by_cases hmn : m < n
          · have HR := Lib.hid (show lexC Lib.compareInt a b = 1 by rw [hR, if_neg (by rw [← HN.out, ← HM.out]; exact hnm), if_pos (by rw [← HN.out, ← HM.out]; exact hmn)])
            clear hR
            go_wp2_with fail
            try simp only [Exit.inBlock, Exit.then]
            go_ret
            exact ⟨ret_int HR.out.symm, hE⟩
          · have HR := Lib.hid (show lexC Lib.compareInt a b = 0 by rw [hR, if_neg (by rw [← HN.out, ← HM.out]; exact hnm), if_neg (by rw [← HN.out, ← HM.out]; exact hmn)])
            clear hR
            go_wp2_with fail
            try simp only [Exit.inBlock, Exit.then]
            go_ret
            exact ⟨ret_int HR.out.symm, hE⟩
end Go.Proofs.Ytnckdopphimgoaa
