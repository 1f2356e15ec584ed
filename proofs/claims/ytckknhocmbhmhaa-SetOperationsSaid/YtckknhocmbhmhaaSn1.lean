/- Contracts of Includes and IsNormal over rows, and of the reference's IsNormal and SamePeriods. -/
import Derived.Test.YtckknhocmbhmhaaSet
import Derived.Test.YtckknhocmbhmhaaRd
import Derived.Test.YtckknhocmbhmhaaPr0
import Derived.Test.YtckknhocmbhmhaaSame
namespace Go.Proofs.Ytckknhocmbhmhaa
open Go.ChangeShapes Go.WideShapes Go.ChangeAt Go.RowKit

theorem inc_at (a b t : Int) (v : Bool) (w : World) (h : incB a b t = v) : Calls Try.prog 24 #[pv a b, .int .i64 t] w fun e w' => e = .returned (.bool v) ∧ Grown w w' := by
  have := inc_per a b t w; rwa [h] at this
theorem memB_step (l : List (Int × Int)) (t : Int) (k : Nat) (h : k < l.length) : memB (l.take (k + 1)) t = (memB (l.take k) t || incB l[k].1 l[k].2 t) := by
  rw [List.take_succ_eq_append_getElem h, memB_append]; simp [memB]
theorem memB_hit {l : List (Int × Int)} {t : Int} {k : Nat} (h : k < l.length) (e : incB l[k].1 l[k].2 t = true) : memB l t = true :=
  List.any_eq_true.2 ⟨l[k], List.getElem_mem _, e⟩
set_option maxHeartbeats 4000000 in
theorem incs_per (l : List (Int × Int)) (v : Value) (t : Int) (w : World) (h : Rd w v l) : Calls Try.prog 25 #[v, .int .i64 t] w fun e w' => e = .returned (.bool (memB l t)) ∧ Grown w w' := by
  obtain ⟨ad, cap, rfl, hc, hm, _, hx⟩ := h
  have HX := Lib.hid hx
  have hm' : l.length ≤ maxLen := Nat.le_trans hc hm
  obtain ⟨n, hn⟩ : ∃ n, n = l.length := ⟨_, rfl⟩
  have HN := Lib.hid hn
  unfold maxLen at hm'
  rw [← hn]
  rw [← hn] at hm'
  clear hx hn hc hm
  go_enter Try.func25, Try.ntmps25
  go_wp2_with fail
  go_loopw [9] (fun i wr => ∃ k : Nat, k ≤ n ∧ i = .int .i64 k ∧ Hid (memB (l.take k) t = false) ∧ Grown w wr) (fun i _ => n - (intOf i).toNat)
  case atStart => exact ⟨0, by omega, rfl, Lib.hid rfl, Grown.refl _⟩
  case round =>
    obtain ⟨k, hk, rfl, HM, hG⟩ := hrel
    by_cases hlt : k < n
    · have hkl : k < l.length := by rw [← HN.out]; exact hlt
      obtain ⟨g, o, rfl, c0', c1'⟩ := HX.out k hkl
      have c0 := kept hG c0'
      have c1 := kept hG c1'
      have hs := memB_step l t k hkl
      have hh := fun e => memB_hit (t := t) hkl e
      have hi1 : (k : Int) < (n : Int) := by omega
      generalize l[k].1 = x at c0 hs hh
      generalize l[k].2 = y at c1 hs hh
      clear c0' c1'
      cases hi : incB x y t
      · have HI := Lib.hid hi
        have HS := Lib.hid (show memB (l.take (k + 1)) t = false by rw [hs, HM.out, hi]; rfl)
        clear hi hs hh
        go_wp2_with fail
        refine (inc_at _ _ _ _ _ HI.out).mono ?_; rintro e w6 ⟨rfl, hg6⟩
        have hG6 := grown_trans (hG.alloc _ _) hg6
        clear c0 c1 hg6
        go_wp2_with fail
        go_roundw
        case rel => exact ⟨k + 1, by omega, by go_num, HS, hG6⟩
        case measure => simp [intOf]; omega
      · have HI := Lib.hid hi
        have HS := Lib.hid (hh hi)
        clear hi hs hh
        go_wp2_with fail
        refine (inc_at _ _ _ _ _ HI.out).mono ?_; rintro e w6 ⟨rfl, hg6⟩
        have hG6 := grown_trans (hG.alloc _ _) hg6
        clear c0 c1 hg6
        go_wp2_with fail
        go_ret
        exact ⟨ret_bool HS.out.symm, hG6⟩
    · have hkn : k = n := by omega
      have hall : l.take k = l := by rw [hkn, HN.out]; exact List.take_length
      have HS := Lib.hid (show memB l t = false by rw [← HM.out, hall])
      clear hall hkn
      go_wp2_with fail
      go_ret
      exact ⟨ret_bool HS.out.symm, hG⟩

theorem nf_up {l : List (Int × Int)} {k : Nat} (h : ∀ j, j < k → okAt l j = true) (e : okAt l k = true) : ∀ j, j < k + 1 → okAt l j = true := by
  intro j hj
  by_cases c : j = k
  · rw [c]; exact e
  · exact h j (by omega)
set_option maxHeartbeats 4000000 in
theorem isn_per (l : List (Int × Int)) (v : Value) (w : World) (h : Rd w v l) : Calls Try.prog 11 #[v] w fun e w' => e = .returned (.bool (nfB l)) ∧ Grown w w' := by
  obtain ⟨ad, cap, rfl, hc, hm, _, hx⟩ := h
  have HX := Lib.hid hx
  have hm' : l.length ≤ maxLen := Nat.le_trans hc hm
  obtain ⟨n, hn⟩ : ∃ n, n = l.length := ⟨_, rfl⟩
  have HN := Lib.hid hn
  unfold maxLen at hm'
  rw [← hn]
  rw [← hn] at hm'
  clear hx hn hc hm
  go_enter Try.func11, Try.ntmps11
  go_wp2_with fail
  go_loopw [7] (fun i wr => ∃ k : Nat, k ≤ n ∧ i = .int .i64 k ∧ Hid (∀ j, j < k → okAt l j = true) ∧ Grown w wr) (fun i _ => n - (intOf i).toNat)
  case atStart => exact ⟨0, by omega, rfl, Lib.hid (fun j hj => by omega), Grown.refl _⟩
  case round =>
    obtain ⟨k, hk, rfl, HM, hG⟩ := hrel
    by_cases hlt : k < n
    · have hkl : k < l.length := by rw [← HN.out]; exact hlt
      obtain ⟨g, o, rfl, c0', c1'⟩ := HX.out k hkl
      have c0 := kept hG c0'
      have c1 := kept hG c1'
      have hi1 : (k : Int) < (n : Int) := by omega
      clear c0' c1'
      cases hv : okV l[k].1 l[k].2
      · have HB := Lib.hid (show nfB l = false from nfB_no hkl (by cases k with
          | zero => rw [okAt_zero hkl, hv]
          | succ j => rw [okAt_succ hkl, hv]; rfl))
        have HV := Lib.hid hv
        clear hv
        generalize l[k].1 = x at c0 HV
        generalize l[k].2 = y at c1 HV
        go_wp2_with fail
        refine (vpp_no _ _ _ HV.out).mono ?_; rintro e w6 ⟨rfl, hg6⟩
        have hG6 := grown_trans (hG.alloc _ _) hg6
        clear c0 c1 hg6
        go_wp2_with fail
        go_ret
        exact ⟨ret_bool HB.out.symm, hG6⟩
      · cases k with
        | zero =>
          have HS := Lib.hid (nf_up HM.out (by rw [okAt_zero hkl, hv]))
          have HV := Lib.hid hv
          clear hv
          simp only [Nat.zero_mul, Nat.add_zero] at c0 c1
          generalize l[0].1 = x at c0 HV
          generalize l[0].2 = y at c1 HV
          go_wp2_with fail
          refine (vpp_yes _ _ _ HV.out).mono ?_; rintro e w6 ⟨rfl, hg6⟩
          have hG6 := grown_trans (hG.alloc _ _) hg6
          clear c0 c1 hg6
          go_wp2_with fail
          go_quiet (fail)
          go_wp2_with fail
          go_roundw
          case rel => exact ⟨0 + 1, by omega, by go_num, HS, grown_drewN hG6 _⟩
          case measure => simp [intOf]; omega
        | succ j =>
          obtain ⟨g', o', he, d0', d1'⟩ := HX.out j (by omega)
          simp only [Option.some.injEq, Addr.mk.injEq, and_true] at he
          obtain ⟨rfl, rfl⟩ := he
          have d1 := kept hG d1'
          have hok := okAt_succ hkl
          clear d0' d1'
          have HV := Lib.hid hv
          by_cases hgap : l[j].2 < l[j + 1].1
          · have HS := Lib.hid (nf_up HM.out (by rw [hok, hv, decide_eq_true hgap]; rfl))
            clear hv hok
            generalize l[j + 1].1 = x at c0 HV hgap
            generalize l[j + 1].2 = y at c1 HV
            generalize l[j].2 = z at d1 hgap
            go_wp2_with fail
            refine (vpp_yes _ _ _ HV.out).mono ?_; rintro e w6 ⟨rfl, hg6⟩
            have hG6 := grown_trans (hG.alloc _ _) hg6
            have b0 := kept hg6 (al0 _ _ _ _)
            have b1 := kept hg6 (al1 _ _ _ _)
            have d6 := kept (grown_trans ((Grown.refl _).alloc _ _) hg6) d1
            have hz : wr.heap.size < w6.heap.size := World.block_lt_of_cell? _ _ b0
            have hj0 : (0 : Int) ≤ (j : Int) := by omega
            have hj1 : (j : Int) < (n : Int) := by omega
            clear c0 c1 hg6 d1
            go_wp2_with fail
            go_quiet (fail)
            go_wp2_with fail
            go_roundw
            case rel => exact ⟨j + 1 + 1, by omega, by go_num, HS, grown_drewN hG6 _⟩
            case measure => simp [intOf]; omega
          · have HB := Lib.hid (show nfB l = false from nfB_no hkl (by rw [hok, decide_eq_false hgap]; simp))
            have hgap' : l[j + 1].1 ≤ l[j].2 := by omega
            clear hv hok hgap
            generalize l[j + 1].1 = x at c0 HV hgap'
            generalize l[j + 1].2 = y at c1 HV
            generalize l[j].2 = z at d1 hgap'
            go_wp2_with fail
            refine (vpp_yes _ _ _ HV.out).mono ?_; rintro e w6 ⟨rfl, hg6⟩
            have hG6 := grown_trans (hG.alloc _ _) hg6
            have b0 := kept hg6 (al0 _ _ _ _)
            have b1 := kept hg6 (al1 _ _ _ _)
            have d6 := kept (grown_trans ((Grown.refl _).alloc _ _) hg6) d1
            have hz : wr.heap.size < w6.heap.size := World.block_lt_of_cell? _ _ b0
            have hj0 : (0 : Int) ≤ (j : Int) := by omega
            have hj1 : (j : Int) < (n : Int) := by omega
            clear c0 c1 hg6 d1
            go_wp2_with fail
            go_quiet (fail)
            go_wp2_with fail
            go_ret
            exact ⟨ret_bool HB.out.symm, grown_drewN hG6 _⟩
    · have HS := Lib.hid (show nfB l = true from nfB_yes (fun j hj => HM.out j (by have := HN.out; omega)))
      go_wp2_with fail
      go_ret
      exact ⟨ret_bool HS.out.symm, hG⟩
set_option maxHeartbeats 4000000 in
theorem same_rd (l : List (Int × Int)) (va vb : Value) (w : World) (ha : Rd w va l) (hb : Rd w vb l) :
    Calls Try.prog 13 #[va, vb] w fun e w' => e = .returned (.bool true) ∧ Grown w w' := by
  obtain ⟨aa, ca, rfl, hc, hm0, _, xa⟩ := ha
  obtain ⟨ab, cb, rfl, _, _, _, xb⟩ := hb
  have hm : l.length ≤ maxLen := Nat.le_trans hc hm0
  have XA := Lib.hid xa
  have XB := Lib.hid xb
  clear xa xb hc hm0
  unfold maxLen at hm
  obtain ⟨n, hn⟩ : ∃ n, n = l.length := ⟨_, rfl⟩
  have HN := Lib.hid hn
  rw [← hn]
  rw [← hn] at hm
  clear hn
  go_enter Try.func13, Try.ntmps13
  go_wp2
  go_loopw [5] (fun i wr => ∃ k : Nat, k ≤ n ∧ i = .int .i64 k ∧ Grown w wr) (fun i _ => n - (intOf i).toNat)
  case atStart => exact ⟨0, by omega, rfl, Grown.refl _⟩
  case round =>
    obtain ⟨k, hk, rfl, hG⟩ := hrel
    rename_i wr
    by_cases hlt : k < n
    · have hlt' : k < l.length := by rw [← HN.out]; exact hlt
      obtain ⟨ga, oa, rfl, a0, a1⟩ := XA.out k hlt'
      obtain ⟨gb, ob, rfl, b0, b1⟩ := XB.out k hlt'
      have A0 := kept hG a0
      have A1 := kept hG a1
      have B0 := kept hG b0
      have B1 := kept hG b1
      clear a0 a1 b0 b1
      have hi0 : (0 : Int) ≤ (k : Int) := Int.natCast_nonneg _
      have hi1 : (k : Int) < (n : Int) := by omega
      go_wp2_with fail
      go_quiet (fail)
      go_wp2_with fail
      go_roundw
      case rel => exact ⟨k + 1, by omega, by go_num, grown_drewN hG _⟩
      case measure => simp [intOf]; omega
    · go_wp2_with fail
      go_ret
      exact ⟨rfl, hG⟩
end Go.Proofs.Ytckknhocmbhmhaa
