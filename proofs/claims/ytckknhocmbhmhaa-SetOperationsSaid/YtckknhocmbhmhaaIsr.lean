/- The contract of the reference's IsNormal. -/
import Derived.Test.YtckknhocmbhmhaaSn1
import Derived.Test.YtckknhocmbhmhaaVal
import Derived.Shelf.SlSortCmp.QuietGrown
namespace Go.Proofs.Ytckknhocmbhmhaa
open Go.ChangeShapes Go.WideShapes Go.ChangeAt Go.RowKit Go.Sort

theorem ext_grow {w X : World} (h : Ext w X) (n : Nat) (os : Array Obj) : Ext w (grow (X.drewN n) os) :=
  ext_grownBy (row := none) h ⟨rfl, rfl, rfl, by simp [grow, World.drewN], fun k hk _ => by simp [grow, World.drewN, Array.getElem?_append_left hk]⟩ (fun k e => by cases e)
set_option maxHeartbeats 1000000 in
theorem vg_ref (a b : Int) (v : Bool) (W : World) (h : okV a b = v) : Calls Try.prog 27 #[pv a b] W fun e w' => e = .returned (.bool v) ∧ ∃ q os', w' = grow (W.drewN q) os' := by
  have H := Lib.hid h
  clear h
  go_enter Try.func27, Try.ntmps27
  go_wp2
  all_goals
    go_ret
    exact ⟨ret_bool (by rw [← H.out, Bool.eq_iff_iff]; simp [okV, *] <;> omega), 0, _, by rw [alloc_eq_grow]; rfl⟩
set_option maxHeartbeats 8000000 in
theorem isn_ref (l : List (Int × Int)) (v : Value) (w : World) (h : Rd w v l) : Calls Try.prog 12 #[v] w fun e w' => e = .returned (.bool (nfB l)) ∧ Ext w w' := by
  have MX := Lib.hid (show Try.prog.follows Departure.mixedOrders = true by kernel_rfl)
  obtain ⟨ad, cap, rfl, hc, hm, _, hx⟩ := h
  have HX := Lib.hid hx
  have hm' : l.length ≤ maxLen := Nat.le_trans hc hm
  obtain ⟨n, hn⟩ : ∃ n, n = l.length := ⟨_, rfl⟩
  have HN := Lib.hid hn
  unfold maxLen at hm'
  rw [← hn]
  rw [← hn] at hm'
  clear hx hn hc hm
  go_enter Try.func12, Try.ntmps12
  go_wp2_with fail
  go_loopw [3] (fun i wr => ∃ k : Nat, k ≤ n ∧ i = .int .i64 k ∧ Hid (∀ j, j < k → okAt l j = true) ∧ Ext w wr) (fun i _ => n - (intOf i).toNat)
  case atStart => exact ⟨0, by omega, rfl, Lib.hid (fun j hj => by omega), Ext.refl _⟩
  case round =>
    obtain ⟨k, hk, rfl, HM, hG⟩ := hrel
    by_cases hlt : k < n
    · have hkl : k < l.length := by rw [← HN.out]; exact hlt
      obtain ⟨g, o, rfl, c0', c1'⟩ := HX.out k hkl
      have c0 := hG.keeps c0'
      have c1 := hG.keeps c1'
      have hgb : g < wr.heap.size := World.block_lt_of_cell? _ _ c0
      have hi0 : (0 : Int) ≤ (k : Int) := by omega
      have hi1 : (k : Int) < (n : Int) := by omega
      clear c0' c1'
      cases hv : okV l[k].1 l[k].2
      · have HB := Lib.hid (show nfB l = false from nfB_no hkl (by cases k with
          | zero => rw [okAt_zero hkl, hv]
          | succ j => rw [okAt_succ hkl, hv]; rfl))
        have HV := Lib.hid hv
        clear hv
        generalize l[k].1 = x at c0 HV
        generalize l[k].2 = y at c1 HV
        have f0 := fun n os => cell_grown (a := ⟨g, o + k * 2, none⟩) hgb c0 n os
        have f1 := fun n os => cell_grown (a := ⟨g, o + k * 2 + 1, none⟩) hgb c1 n os
        clear c0 c1
        go_wp2_with fail
        have mixed := MX.out
        refine wp_region_quiet_grown (by assumption) (by kernel_rfl) ?_
        repeat (first | go_big_quiet_step (first | (go_at_call 27; refine Calls.grown_of (vg_ref x y false _ HV.out))) | quiet_step (first | (go_at_call 27; refine Calls.grown_of (vg_ref x y false _ HV.out))))
        refine wpQuiet_nil ?_
        intro _ hw'
        obtain ⟨⟨nq, osq⟩, hw''⟩ := hw'
        subst hw''
        clear mixed
        go_wp2_with fail
        go_ret
        exact ⟨ret_bool HB.out.symm, ext_grow hG _ _⟩
      · cases k with
        | zero =>
          have HS := Lib.hid (nf_up HM.out (by rw [okAt_zero hkl, hv]))
          have HV := Lib.hid hv
          clear hv
          simp only [Nat.zero_mul, Nat.add_zero] at c0 c1
          generalize l[0].1 = x at c0 HV
          generalize l[0].2 = y at c1 HV
          have f0 := fun n os => cell_grown (a := ⟨g, o, none⟩) hgb c0 n os
          have f1 := fun n os => cell_grown (a := ⟨g, o + 1, none⟩) hgb c1 n os
          clear c0 c1
          go_wp2_with fail
          have mixed := MX.out
          refine wp_region_quiet_grown (by assumption) (by kernel_rfl) ?_
          repeat (first | go_big_quiet_step (first | (go_at_call 27; refine Calls.grown_of (vg_ref x y true _ HV.out))) | quiet_step (first | (go_at_call 27; refine Calls.grown_of (vg_ref x y true _ HV.out))))
          refine wpQuiet_nil ?_
          intro _ hw'
          obtain ⟨⟨nq, osq⟩, hw''⟩ := hw'
          subst hw''
          clear mixed
          go_wp2_with fail
          go_roundw
          case rel => exact ⟨0 + 1, by omega, by go_num, HS, ext_grow hG _ _⟩
          case measure => simp [intOf]; omega
        | succ j =>
          obtain ⟨g', o', he, d0', d1'⟩ := HX.out j (by omega)
          simp only [Option.some.injEq, Addr.mk.injEq, and_true] at he
          obtain ⟨rfl, rfl⟩ := he
          have d1 := hG.keeps d1'
          have hok := okAt_succ hkl
          clear d0' d1'
          have HV := Lib.hid hv
          have hj0 : (0 : Int) ≤ (j : Int) := by omega
          have hj1 : (j : Int) < (n : Int) := by omega
          by_cases hgap : l[j].2 < l[j + 1].1
          · have HS := Lib.hid (nf_up HM.out (by rw [hok, hv, decide_eq_true hgap]; rfl))
            clear hv hok
            generalize l[j + 1].1 = x at c0 HV hgap
            generalize l[j + 1].2 = y at c1 HV
            generalize l[j].2 = z at d1 hgap
            have f0 := fun n os => cell_grown (a := ⟨g, o + (j + 1) * 2, none⟩) hgb c0 n os
            have f1 := fun n os => cell_grown (a := ⟨g, o + (j + 1) * 2 + 1, none⟩) hgb c1 n os
            have f2 := fun n os => cell_grown (a := ⟨g, o + j * 2 + 1, none⟩) hgb d1 n os
            clear c0 c1 d1
            go_wp2_with fail
            have mixed := MX.out
            refine wp_region_quiet_grown (by assumption) (by kernel_rfl) ?_
            repeat (first | go_big_quiet_step (first | (go_at_call 27; refine Calls.grown_of (vg_ref x y true _ HV.out))) | quiet_step (first | (go_at_call 27; refine Calls.grown_of (vg_ref x y true _ HV.out))))
            refine wpQuiet_nil ?_
            intro _ hw'
            obtain ⟨⟨nq, osq⟩, hw''⟩ := hw'
            subst hw''
            clear mixed
            go_wp2_with fail
            go_roundw
            case rel => exact ⟨j + 1 + 1, by omega, by go_num, HS, ext_grow hG _ _⟩
            case measure => simp [intOf]; omega
          · have HB := Lib.hid (show nfB l = false from nfB_no hkl (by rw [hok, decide_eq_false hgap]; simp))
            have hgap' : l[j + 1].1 ≤ l[j].2 := by omega
            clear hv hok hgap
            generalize l[j + 1].1 = x at c0 HV hgap'
            generalize l[j + 1].2 = y at c1 HV
            generalize l[j].2 = z at d1 hgap'
            have f0 := fun n os => cell_grown (a := ⟨g, o + (j + 1) * 2, none⟩) hgb c0 n os
            have f1 := fun n os => cell_grown (a := ⟨g, o + (j + 1) * 2 + 1, none⟩) hgb c1 n os
            have f2 := fun n os => cell_grown (a := ⟨g, o + j * 2 + 1, none⟩) hgb d1 n os
            clear c0 c1 d1
            go_wp2_with fail
            have mixed := MX.out
            refine wp_region_quiet_grown (by assumption) (by kernel_rfl) ?_
            repeat (first | go_big_quiet_step (first | (go_at_call 27; refine Calls.grown_of (vg_ref x y true _ HV.out))) | quiet_step (first | (go_at_call 27; refine Calls.grown_of (vg_ref x y true _ HV.out))))
            refine wpQuiet_nil ?_
            intro _ hw'
            obtain ⟨⟨nq, osq⟩, hw''⟩ := hw'
            subst hw''
            clear mixed
            go_wp2_with fail
            go_ret
            exact ⟨ret_bool HB.out.symm, ext_grow hG _ _⟩
    · have HS := Lib.hid (show nfB l = true from nfB_yes (fun j hj => HM.out j (by have := HN.out; omega)))
      go_wp2_with fail
      go_ret
      exact ⟨ret_bool HS.out.symm, hG⟩
end Go.Proofs.Ytckknhocmbhmhaa
