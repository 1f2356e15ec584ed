/- The law ValueOrder. -/
import Derived.Test.YtejgmiljjpgbpaaDoorLv1
namespace Go.Proofs.YtejgmiljjpgbpaaDoor
open Go.ChangeShapes Go.WideShapes Go.ChangeAt Go.RowKit

/-- Compare over an elder world, with open arguments -/
theorem cmpVE (W0 : World) (k n : Int) (s : List UInt8) (k2 n2 : Int) (s2 : List UInt8) (w : World) (h : Ext W0 w) : Calls Tryd.prog 14 #[.agg #[.int .i64 k, .int .i64 n, sv s], .agg #[.int .i64 k2, .int .i64 n2, sv s2]] w fun e w' => e = .returned (.int .i64 (cmpV ⟨k, n, s⟩ ⟨k2, n2, s2⟩)) ∧ (∀ b o, b < W0.heap.size → w'.cell? ⟨b, o, none⟩ = W0.cell? ⟨b, o, none⟩) ∧ Ext W0 w' :=
  heldE W0 ((cmp_val ⟨k, n, s⟩ ⟨k2, n2, s2⟩ w).mono fun _ _ ⟨e, g⟩ => ⟨e, ext_of_grown g⟩) h
theorem ord_cases (a b c : V) : (a = b ∧ cmpV a c = cmpV b c ∧ cmpV a b = 0) ∨
    (a ≠ b ∧ (cmpV a b = 1 ∨ (cmpV a b = -1 ∧ cmpV b c = 1) ∨ (cmpV a b = -1 ∧ (cmpV b c = 0 ∨ cmpV b c = -1) ∧ cmpV a c = -1))) := by
  by_cases e : a = b
  · subst e; exact Or.inl ⟨rfl, rfl, (cv_zero _ _).2 rfl⟩
  · refine Or.inr ⟨e, ?_⟩
    have h := cv_order a b c
    have h0 : cmpV a b ≠ 0 := fun z => e ((cv_zero _ _).1 z)
    rcases cv_vals a b with x | x | x <;> rcases cv_vals b c with y | y | y <;> omega
theorem v_ne (k n k2 n2 : Int) (s s2 : List UInt8) (h : (⟨k, n, s⟩ : V) ≠ ⟨k2, n2, s2⟩) : k ≠ k2 ∨ (k = k2 ∧ n ≠ n2) ∨ (k = k2 ∧ n = n2 ∧ s ≠ s2) := by
  by_cases h1 : k = k2
  · by_cases h2 : n = n2
    · exact Or.inr (Or.inr ⟨h1, h2, fun e => h (by rw [h1, h2, e])⟩)
    · exact Or.inr (Or.inl ⟨h1, h2⟩)
  · exact Or.inl h1
set_option maxHeartbeats 8000000 in
set_option maxRecDepth 100000 in
theorem law_ValueOrder (a b c : V) (w : World) (hG : GE w) : Calls Tryd.prog 4 #[vv a, vv b, vv c] w fun e w' => e = .returned (.bool true) ∧ Ext w w' := by
  have HG := Lib.hid hG
  have HO := Lib.hid (ord_cases a b c)
  have HS := Lib.hid (cv_swap a b)
  have HV := Lib.hid (And.intro (cv_vals b c) (cv_vals a c))
  clear hG
  obtain ⟨ak, an, az⟩ := a
  obtain ⟨bk, bn, bz⟩ := b
  obtain ⟨ck, cn, cz⟩ := c
  go_enter Tryd.func4, Tryd.ntmps4
  go_wp2_with fail
  have hA := ((Box.new w ⟨ak, an, az⟩).alloc (.cells #[.int .i64 bk, .int .i64 bn, sv bz] 23)).alloc (.cells #[.int .i64 ck, .int .i64 cn, sv cz] 23)
  have hB := (Box.new (w.alloc (.cells #[.int .i64 ak, .int .i64 an, sv az] 23)) ⟨bk, bn, bz⟩).alloc (.cells #[.int .i64 ck, .int .i64 cn, sv cz] 23)
  have hC := Box.new ((w.alloc (.cells #[.int .i64 ak, .int .i64 an, sv az] 23)).alloc (.cells #[.int .i64 bk, .int .i64 bn, sv bz] 23)) ⟨ck, cn, cz⟩
  have hE0 := (((Ext.refl w).alloc #[.int .i64 ak, .int .i64 an, sv az] 23).alloc #[.int .i64 bk, .int .i64 bn, sv bz] 23).alloc #[.int .i64 ck, .int .i64 cn, sv cz] 23
  have z1 : (w.alloc (.cells #[.int .i64 ak, .int .i64 an, sv az] 23)).heap.size = w.heap.size + 1 := by simp
  have z2 : ((w.alloc (.cells #[.int .i64 ak, .int .i64 an, sv az] 23)).alloc (.cells #[.int .i64 bk, .int .i64 bn, sv bz] 23)).heap.size = w.heap.size + 1 + 1 := by simp
  rw [z1] at hB
  rw [z2] at hC
  clear z1 z2
  generalize ((w.alloc (.cells #[.int .i64 ak, .int .i64 an, sv az] 23)).alloc (.cells #[.int .i64 bk, .int .i64 bn, sv bz] 23)).alloc (.cells #[.int .i64 ck, .int .i64 cn, sv cz] 23) = W0 at *
  have K00 := Lib.hid hA.c0
  have K01 := Lib.hid hA.c1
  have K02 := Lib.hid hA.c2
  have K10 := Lib.hid hB.c0
  have K11 := Lib.hid hB.c1
  have K12 := Lib.hid hB.c2
  have K20 := Lib.hid hC.c0
  have K21 := Lib.hid hC.c1
  have K22 := Lib.hid hC.c2
  have gK00 := K00.out
  have gK01 := K01.out
  have gK02 := K02.out
  have gK10 := K10.out
  have gK11 := K11.out
  have gK12 := K12.out
  have gK20 := K20.out
  have gK21 := K21.out
  have gK22 := K22.out
  go_region_held3 (fun w' => w'.cell? ⟨w.heap.size, 0, none⟩ = some (.int .i64 ak) ∧ w'.cell? ⟨w.heap.size, 1, none⟩ = some (.int .i64 an) ∧ w'.cell? ⟨w.heap.size, 2, none⟩ = some (sv az) ∧ w'.cell? ⟨w.heap.size + 1, 0, none⟩ = some (.int .i64 bk) ∧ w'.cell? ⟨w.heap.size + 1, 1, none⟩ = some (.int .i64 bn) ∧ w'.cell? ⟨w.heap.size + 1, 2, none⟩ = some (sv bz) ∧ w'.cell? ⟨w.heap.size + 1 + 1, 0, none⟩ = some (.int .i64 ck) ∧ w'.cell? ⟨w.heap.size + 1 + 1, 1, none⟩ = some (.int .i64 cn) ∧ w'.cell? ⟨w.heap.size + 1 + 1, 2, none⟩ = some (sv cz)) (first | exact ⟨K00.out, K01.out, K02.out, K10.out, K11.out, K12.out, K20.out, K21.out, K22.out⟩ | go_keep)
    (first | (go_at_call 14; refine (cmpVE W0 _ _ _ _ _ _ _ ?_).mono ?_; (first | assumption | exact Ext.refl _ | exact (Ext.refl _).drew); rintro e w3 ⟨rfl, q0, qG⟩; have f0 := qG.keeps K00.out; have f1 := qG.keeps K01.out; have f2 := qG.keeps K02.out; have f3 := qG.keeps K10.out; have f4 := qG.keeps K11.out; have f5 := qG.keeps K12.out; have f6 := qG.keeps K20.out; have f7 := qG.keeps K21.out; have f8 := qG.keeps K22.out))
  have hF3 := hE0.trans qG
  have hA3 := hA.ext qG
  have hB3 := hB.ext qG
  clear gK00 gK01 gK02 gK10 gK11 gK12 gK20 gK21 gK22 f0 f1 f2 f3 f4 f5 f6 f7 f8 q0
  go_wp2_with fail
  refine (awake_law _ (HG.out.ext hF3)).mono ?_; rintro e x4 ⟨rfl, hE4⟩
  obtain ⟨a0, a1, a2⟩ := cells_of (hA3.ext hE4)
  obtain ⟨b0, b1, b2⟩ := cells_of (hB3.ext hE4)
  go_wp2_with fail
  refine (cmpVE x4 _ _ _ _ _ _ _ (Ext.refl _)).mono ?_; rintro e x5 ⟨rfl, q5, hE5⟩
  rw [HS.out]
  have hF5 := (hF3.trans hE4).trans hE5
  clear a0 a1 a2 b0 b1 b2 q5
  obtain ⟨a0, a1, a2⟩ := cells_of ((hA3.ext hE4).ext hE5)
  obtain ⟨b0, b1, b2⟩ := cells_of ((hB3.ext hE4).ext hE5)
  generalize cmpV ⟨ak, an, az⟩ ⟨bk, bn, bz⟩ = x at *
  generalize cmpV ⟨bk, bn, bz⟩ ⟨ck, cn, cz⟩ = y at *
  generalize cmpV ⟨ak, an, az⟩ ⟨ck, cn, cz⟩ = z at *
  obtain ⟨hy, hz⟩ := HV.out
  rcases HO.out with ⟨e, h1, rfl⟩ | ⟨hne, h⟩
  · simp only [V.mk.injEq] at e
    obtain ⟨rfl, rfl, rfl⟩ := e
    subst h1
    clear hz
    rcases hy with rfl | rfl | rfl
    all_goals
      go_wp2_with fail
      go_ret
      exact ⟨rfl, hF5⟩
  · rcases h with rfl | ⟨rfl, rfl⟩ | ⟨rfl, hy2, rfl⟩
    · clear hy hz
      rcases v_ne _ _ _ _ _ _ hne with hk | ⟨rfl, hk⟩ | ⟨rfl, rfl, hk⟩
      · go_wp2_with fail
        go_ret
        exact ⟨rfl, hF5⟩
      · go_wp2_with fail
        go_ret
        exact ⟨rfl, hF5⟩
      · have hk1 : (az == bz) = false := by simpa using hk
        go_wp2_with fail
        go_ret
        exact ⟨rfl, hF5⟩
    · clear hy hz
      rcases v_ne _ _ _ _ _ _ hne with hk | ⟨rfl, hk⟩ | ⟨rfl, rfl, hk⟩
      · go_wp2_with fail
        go_ret
        exact ⟨rfl, hF5⟩
      · go_wp2_with fail
        go_ret
        exact ⟨rfl, hF5⟩
      · have hk1 : (az == bz) = false := by simpa using hk
        go_wp2_with fail
        go_ret
        exact ⟨rfl, hF5⟩
    · clear hy hz
      rcases hy2 with rfl | rfl
      all_goals
        rcases v_ne _ _ _ _ _ _ hne with hk | ⟨rfl, hk⟩ | ⟨rfl, rfl, hk⟩
        · go_wp2_with fail
          go_ret
          exact ⟨rfl, hF5⟩
        · go_wp2_with fail
          go_ret
          exact ⟨rfl, hF5⟩
        · have hk1 : (az == bz) = false := by simpa using hk
          go_wp2_with fail
          go_ret
          exact ⟨rfl, hF5⟩
end Go.Proofs.YtejgmiljjpgbpaaDoor
