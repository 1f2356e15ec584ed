/- CompareRows, of the program and of the reference. -/
import Derived.Test.YtejgmiljjpgbpaaDoorRv
namespace Go.Proofs.YtejgmiljjpgbpaaDoor
open Go.ChangeShapes Go.WideShapes Go.ChangeAt Go.RowKit

theorem take_next (a b : List V) (k : Nat) (ha : k < a.length) (hb : k < b.length) (h : a.take k = b.take k) (hz : cmpV a[k] b[k] = 0) : a.take (k + 1) = b.take (k + 1) := by
  rw [List.take_succ_eq_append_getElem ha, List.take_succ_eq_append_getElem hb, h, (cv_zero _ _).1 hz]
def CfR (w : World) (a b : List V) (i : Value) (wr : World) : Prop := ∃ k : Nat, k ≤ a.length ∧ k ≤ b.length ∧ i = .int .i64 k ∧ Hid (a.take k = b.take k) ∧ Ext w wr
set_option maxHeartbeats 4000000 in
set_option maxRecDepth 100000 in
theorem cf_val (a b : List V) (va vb : Value) (w : World) (hra : RdV w va a) (hrb : RdV w vb b) :
    Calls Tryd.prog 29 #[va, vb, .func (.func 14) #[] #[]] w fun e w' => e = .returned (.int .i64 (cmpR a b)) ∧ Ext w w' := by
  obtain ⟨ad, cap, rfl, h1, h2, h3, h4⟩ := hra
  obtain ⟨bd, bcap, rfl, i1, i2, i3, i4⟩ := hrb
  have H4 := Lib.hid h4
  have I4 := Lib.hid i4
  clear h3 h4 i3 i4
  obtain ⟨n, hn⟩ : ∃ n, n = a.length := ⟨_, rfl⟩
  obtain ⟨m, hm⟩ : ∃ m, m = b.length := ⟨_, rfl⟩
  have HN := Lib.hid hn
  have HM := Lib.hid hm
  rw [← hn] at h1 ⊢
  rw [← hm] at i1 ⊢
  clear hn hm
  unfold maxLen at h2 i2
  go_enter Tryd.func29, Tryd.ntmps29
  go_wp2_with fail
  go_loopw [13] (CfR w a b) (fun i _ => n - (intOf i).toNat)
  case atStart => exact ⟨0, Nat.zero_le _, Nat.zero_le _, rfl, Lib.hid (by simp), Ext.refl _⟩
  case round =>
    obtain ⟨k, hk, hkb, rfl, HT, hE⟩ := hrel
    have hkn : k ≤ n := by rw [HN.out]; exact hk
    have hkm : k ≤ m := by rw [HM.out]; exact hkb
    by_cases hlt : k < n
    · have hlt' : k < a.length := by rw [← HN.out]; exact hlt
      obtain ⟨g, o, rfl, c0', c1', c2'⟩ := H4.out k hlt'
      have c0 := hE.keeps c0'
      have c1 := hE.keeps c1'
      have c2 := hE.keeps c2'
      clear c0' c1' c2'
      by_cases hlt2 : k < m
      · have hlt2' : k < b.length := by rw [← HM.out]; exact hlt2
        obtain ⟨g2, o2, rfl, d0', d1', d2'⟩ := I4.out k hlt2'
        have d0 := hE.keeps d0'
        have d1 := hE.keeps d1'
        have d2 := hE.keeps d2'
        have HC := Lib.hid (cr_eq_take a b k hlt' hlt2' HT.out)
        have HX := Lib.hid (take_next a b k hlt' hlt2' HT.out)
        have hg2 : g2 < wr.heap.size := World.block_lt_of_cell? _ _ d0
        clear d0' d1' d2'
        generalize a[k] = x at *
        generalize b[k] = y at *
        obtain ⟨xk, xn, xs⟩ := x
        obtain ⟨yk, yn, ys⟩ := y
        simp only at c0 c1 c2 d0 d1 d2
        have hcv := cmp_val ⟨xk, xn, xs⟩ ⟨yk, yn, ys⟩
        by_cases hz : cmpV ⟨xk, xn, xs⟩ ⟨yk, yn, ys⟩ = 0
        · rw [hz] at hcv
          have HV := Lib.hid hcv
          have HX' := Lib.hid (HX.out hz)
          clear hcv hz
          go_wp2_with fail
          refine (HV.out _).mono ?_; rintro e w1 ⟨rfl, hg⟩
          go_wp2_with fail
          go_roundw
          case rel => exact ⟨k + 1, hlt', hlt2', by go_num, HX', (hE.trans (((Ext.refl _).alloc _ _).alloc _ _)).trans (ext_of_grown hg)⟩
          case measure => simp [intOf]; omega
        · have HV := Lib.hid hcv
          have HR := Lib.hid (show cmpR a b = cmpV ⟨xk, xn, xs⟩ ⟨yk, yn, ys⟩ by rw [HC.out, if_neg hz])
          have hz1 : (cmpV ⟨xk, xn, xs⟩ ⟨yk, yn, ys⟩ == 0) = false := by simpa using hz
          clear hcv
          go_wp2_with fail
          refine (HV.out _).mono ?_; rintro e w1 ⟨rfl, hg⟩
          go_wp2_with fail
          go_ret
          exact ⟨ret_int HR.out.symm, (hE.trans (((Ext.refl _).alloc _ _).alloc _ _)).trans (ext_of_grown hg)⟩
      · have HR := Lib.hid (show cmpR a b = 1 by rw [cr_end a b k hk hkb HT.out (Or.inr (by have := HM.out; omega)), if_neg (by have := HM.out; omega), if_pos (by have := HM.out; omega)])
        go_wp2_with fail
        go_ret
        exact ⟨ret_int HR.out.symm, hE.trans ((Ext.refl _).alloc _ _)⟩
    · have hR := cr_end a b k hk hkb HT.out (Or.inl (by have := HN.out; omega))
      by_cases hnm : n < m
      · have HR := Lib.hid (show cmpR a b = -1 by rw [hR, if_pos (by rw [← HN.out, ← HM.out]; exact hnm)])
        clear hR
        go_wp2_with fail
        go_ret
        exact ⟨ret_int HR.out.symm, hE⟩
      · have HR := Lib.hid (show cmpR a b = 0 by rw [hR, if_neg (by rw [← HN.out, ← HM.out]; exact hnm), if_neg (by have := HN.out; omega)])
        clear hR
        go_wp2_with fail
        go_ret
        exact ⟨ret_int HR.out.symm, hE⟩
set_option maxHeartbeats 1000000 in
theorem crows_val (a b : List V) (va vb : Value) (w : World) (hra : RdV w va a) (hrb : RdV w vb b) : Calls Tryd.prog 18 #[va, vb] w fun e w' => e = .returned (.int .i64 (cmpR a b)) ∧ Ext w w' := by
  have HA := Lib.hid hra
  have HB := Lib.hid hrb
  clear hra hrb
  go_enter Tryd.func18, Tryd.ntmps18
  go_wp2_with fail
  refine (cf_val a b va vb w HA.out HB.out).mono ?_; rintro e w1 ⟨rfl, hE⟩
  go_wp2_with fail
  go_ret
  exact ⟨rfl, hE⟩
/-- the reference's Compare over an elder world -/
theorem cmpRE (W0 : World) (a b : V) (w : World) (h : Ext W0 w) : Calls Tryd.prog 15 #[vv a, vv b] w fun e w' => e = .returned (.int .i64 (cmpV a b)) ∧ (∀ b o, b < W0.heap.size → w'.cell? ⟨b, o, none⟩ = W0.cell? ⟨b, o, none⟩) ∧ Ext W0 w' :=
  heldE W0 ((cmp_ref a b w).mono fun _ _ ⟨e, g⟩ => ⟨e, ext_of_grown g⟩) h
set_option maxHeartbeats 4000000 in
set_option maxRecDepth 100000 in
theorem crows_ref (a b : List V) (va vb : Value) (w : World) (hra : RdV w va a) (hrb : RdV w vb b) : Calls Tryd.prog 19 #[va, vb] w fun e w' => e = .returned (.int .i64 (cmpR a b)) ∧ Ext w w' := by
  obtain ⟨ad, cap, rfl, h1, h2, h3, h4⟩ := hra
  obtain ⟨bd, bcap, rfl, i1, i2, i3, i4⟩ := hrb
  have H4 := Lib.hid h4
  have I4 := Lib.hid i4
  clear h3 h4 i3 i4
  obtain ⟨n, hn⟩ : ∃ n, n = a.length := ⟨_, rfl⟩
  obtain ⟨m, hm⟩ : ∃ m, m = b.length := ⟨_, rfl⟩
  have HN := Lib.hid hn
  have HM := Lib.hid hm
  rw [← hn] at h1 ⊢
  rw [← hm] at i1 ⊢
  clear hn hm
  unfold maxLen at h2 i2
  go_enter Tryd.func19, Tryd.ntmps19
  go_wp2_with fail
  go_loopw [5] (CfR w a b) (fun i _ => n - (intOf i).toNat)
  case atStart => exact ⟨0, Nat.zero_le _, Nat.zero_le _, rfl, Lib.hid (by simp), Ext.refl _⟩
  case round =>
    obtain ⟨k, hk, hkb, rfl, HT, hE⟩ := hrel
    have hkn : k ≤ n := by rw [HN.out]; exact hk
    have hkm : k ≤ m := by rw [HM.out]; exact hkb
    by_cases hex : k < n ∧ k < m
    · obtain ⟨hlt, hlt2⟩ := hex
      have hlt' : k < a.length := by rw [← HN.out]; exact hlt
      obtain ⟨g, o, rfl, c0', c1', c2'⟩ := H4.out k hlt'
      have hlt2' : k < b.length := by rw [← HM.out]; exact hlt2
      obtain ⟨g2, o2, rfl, d0', d1', d2'⟩ := I4.out k hlt2'
      have c0 := hE.keeps c0'
      have c1 := hE.keeps c1'
      have c2 := hE.keeps c2'
      have d0 := hE.keeps d0'
      have d1 := hE.keeps d1'
      have d2 := hE.keeps d2'
      have HC := Lib.hid (cr_eq_take a b k hlt' hlt2' HT.out)
      have HX := Lib.hid (take_next a b k hlt' hlt2' HT.out)
      clear d0' d1' d2' c0' c1' c2'
      generalize a[k] = x at *
      generalize b[k] = y at *
      obtain ⟨xk, xn, xs⟩ := x
      obtain ⟨yk, yn, ys⟩ := y
      simp only at c0 c1 c2 d0 d1 d2
      have K0 := Lib.hid c0
      have K1 := Lib.hid c1
      have K2 := Lib.hid c2
      have K3 := Lib.hid d0
      have K4 := Lib.hid d1
      have K5 := Lib.hid d2
      go_wp2_with fail
      go_region_held3 (fun w' => w'.cell? ⟨g, o + k * 3, none⟩ = some (.int .i64 xk) ∧ w'.cell? ⟨g, o + k * 3 + 1, none⟩ = some (.int .i64 xn) ∧ w'.cell? ⟨g, o + k * 3 + 2, none⟩ = some (sv xs) ∧ w'.cell? ⟨g2, o2 + k * 3, none⟩ = some (.int .i64 yk) ∧ w'.cell? ⟨g2, o2 + k * 3 + 1, none⟩ = some (.int .i64 yn) ∧ w'.cell? ⟨g2, o2 + k * 3 + 2, none⟩ = some (sv ys)) (first | exact ⟨K0.out, K1.out, K2.out, K3.out, K4.out, K5.out⟩ | go_keep)
        (first | (go_at_call 15; refine (cmpRE wr ⟨xk, xn, xs⟩ ⟨yk, yn, ys⟩ _ ?_).mono ?_; (first | assumption | exact Ext.refl _ | exact (Ext.refl _).drew); rintro e w3 ⟨rfl, q0, qG⟩; have f0 := qG.keeps K0.out; have f1 := qG.keeps K1.out; have f2 := qG.keeps K2.out; have f3 := qG.keeps K3.out; have f4 := qG.keeps K4.out; have f5 := qG.keeps K5.out))
      by_cases hz : cmpV ⟨xk, xn, xs⟩ ⟨yk, yn, ys⟩ = 0
      · have HX' := Lib.hid (HX.out hz)
        have hz1 : (cmpV ⟨xk, xn, xs⟩ ⟨yk, yn, ys⟩ == 0) = true := by simpa using hz
        clear hz
        go_wp2_with fail
        go_roundw
        case rel => exact ⟨k + 1, hlt', hlt2', by go_num, HX', hE.trans qG⟩
        case measure => simp [intOf]; omega
      · have HR := Lib.hid (show cmpR a b = cmpV ⟨xk, xn, xs⟩ ⟨yk, yn, ys⟩ by rw [HC.out, if_neg hz])
        have hz1 : (cmpV ⟨xk, xn, xs⟩ ⟨yk, yn, ys⟩ == 0) = false := by simpa using hz
        go_wp2_with fail
        try simp only [Exit.inBlock, Exit.then]
        go_ret
        exact ⟨ret_int HR.out.symm, hE.trans qG⟩
    · have hR := cr_end a b k hk hkb HT.out (by have := HN.out; have := HM.out; omega)
      have hge : ¬ k < n ∨ (k < n ∧ ¬ k < m) := by
        by_cases e : k < n
        · exact Or.inr ⟨e, fun e2 => hex ⟨e, e2⟩⟩
        · exact Or.inl e
      clear hex
      rcases hge with hx | ⟨hx, hx2⟩
      all_goals
        by_cases hnm : n < m
        · have HR := Lib.hid (show cmpR a b = -1 by rw [hR, if_pos (by rw [← HN.out, ← HM.out]; exact hnm)])
          clear hR
          first
            | (exfalso; omega)
            | (go_wp2_with fail
               try simp only [Exit.inBlock, Exit.then]
               go_ret
               exact ⟨ret_int HR.out.symm, hE⟩)
        · by_cases hmn : m < n
          · have HR := Lib.hid (show cmpR a b = 1 by rw [hR, if_neg (by rw [← HN.out, ← HM.out]; exact hnm), if_pos (by rw [← HN.out, ← HM.out]; exact hmn)])
            clear hR
            go_wp2_with fail
            try simp only [Exit.inBlock, Exit.then]
            go_ret
            exact ⟨ret_int HR.out.symm, hE⟩
          · have HR := Lib.hid (show cmpR a b = 0 by rw [hR, if_neg (by rw [← HN.out, ← HM.out]; exact hnm), if_neg (by rw [← HN.out, ← HM.out]; exact hmn)])
            clear hR
            go_wp2_with fail
            try simp only [Exit.inBlock, Exit.then]
            go_ret
            exact ⟨ret_int HR.out.symm, hE⟩
end Go.Proofs.YtejgmiljjpgbpaaDoor
