/- The contract of the program's merge. -/
import Derived.Test.YtckknhocmbhmhaaMrg
namespace Go.Proofs.Ytckknhocmbhmhaa
open Go.ChangeShapes Go.WideShapes Go.ChangeAt Go.RowKit

theorem nil_or_snoc (m : List (Int × Int)) : m = [] ∨ ∃ m' a b, m = m' ++ [(a, b)] := by
  rcases List.eq_nil_or_concat m with rfl | ⟨m', p, rfl⟩
  · exact Or.inl rfl
  · exact Or.inr ⟨m', p.1, p.2, by rw [List.concat_eq_append]⟩
set_option maxHeartbeats 8000000 in
theorem merge_per (L : List (Int × Int)) (v : Value) (w : World) (h : Rd w v L) (hS : SV L) : Calls Try.prog 28 #[v] w (SetPost (memB L) w) := by
  obtain ⟨ad, cap, rfl, hc, hm, _, hx⟩ := h
  have HX := Lib.hid hx
  have HSV := Lib.hid hS
  have hm' : L.length ≤ maxLen := Nat.le_trans hc hm
  obtain ⟨n, hn⟩ : ∃ n, n = L.length := ⟨_, rfl⟩
  have HN := Lib.hid hn
  unfold maxLen at hm'
  rw [← hn]
  rw [← hn] at hm'
  clear hx hn hc hm hS
  go_enter Try.func28, Try.ntmps28
  go_wp2_with fail
  go_loopw [3, 9] (fun u i wr => ∃ k : Nat, k ≤ n ∧ i = .int .i64 k ∧ ∃ m, Hid (MInv L k m) ∧ Own w wr u m) (fun _ i _ => n - (intOf i).toNat)
  case atStart => exact ⟨0, by omega, rfl, [], Lib.hid (MInv.start L), Own.nil w w (Ext.refl _)⟩
  case round =>
    obtain ⟨k, hk, rfl, m, HM, hO⟩ := hrel
    by_cases hlt : k < n
    · have hkl : k < L.length := by rw [← HN.out]; exact hlt
      obtain ⟨g, o, rfl, c0', c1'⟩ := HX.out k hkl
      have c0 := hO.2.keeps c0'
      have c1 := hO.2.keeps c1'
      have hi1 : (k : Int) < (n : Int) := by omega
      obtain ⟨x, y, hxy⟩ : ∃ x y, L[k] = (x, y) := ⟨_, _, rfl⟩
      rw [hxy] at c0 c1
      simp only at c0 c1
      have HE := Lib.hid hxy
      have hlen := HM.out.1.len
      clear c0' c1' hxy
      rcases nil_or_snoc m with rfl | ⟨m', a, b, rfl⟩
      · have HS := Lib.hid (HM.out.more HSV.out hkl HE.out (fun q hq => absurd hq List.not_mem_nil))
        obtain ⟨ad2, cap2, rfl, _⟩ := hO.rd
        simp only [List.length_nil] at hO ⊢
        go_wp2_with fail
        go_quiet (fail)
        go_wp2_with (at_builtin; refine appR rfl _ _ rfl w _ [] rfl (((hO.ext ((Ext.refl _).alloc _ _)).drewN _).ext ((Ext.refl _).alloc _ _)) _ [(x, y)] rfl (rd_lit1 _ x y _ _ (by simp)) (by simp) ?_; intro v' w' hO' hg')
        go_roundw
        case rel => exact ⟨k + 1, by omega, by go_num, [] ++ [(x, y)], HS, hO'⟩
        case measure => simp [intOf]; omega
      · obtain ⟨g2, cap2, rfl, hb2, hlt2, d0, d1, hf⟩ := hO.last
        have hlen' : m'.length + 1 ≤ 549755813889 := by simpa using hlen
        obtain ⟨q, hq⟩ : ∃ q, q = m'.length := ⟨_, rfl⟩
        have HO := Lib.hid hO
        have HQ := Lib.hid hq
        rw [← hq] at d0 d1 hlen' ⊢
        clear hq hO
        have hj0 : (0 : Int) ≤ (q : Int) := by omega
        have hj1 : (q : Int) < (q : Int) + 1 := by omega
        have hne : g2 ≠ wr.heap.size := by omega
        by_cases hgap : b < x
        · have HS := Lib.hid (HM.out.more HSV.out hkl HE.out (fun q hq => by
            rcases List.mem_append.1 hq with hq | hq
            · have h1 := HM.out.1.before hq (q := (a, b)) (by simp)
              have h2 := HM.out.1.1 (a, b) (by simp)
              simp only at h1 h2; omega
            · simp at hq; subst hq; exact hgap))
          clear HM hlen
          go_wp2_with fail
          go_quiet (fail)
          go_wp2_with (at_builtin; refine appR rfl _ _ rfl w _ (m' ++ [(a, b)]) (by rw [HQ.out]; rfl) (((HO.out.ext ((Ext.refl _).alloc _ _)).drewN _).ext ((Ext.refl _).alloc _ _)) _ [(x, y)] rfl (rd_lit1 _ x y _ _ (by simp)) (by have := HQ.out; simp; omega) ?_; intro v' w' hO' hg')
          go_roundw
          case rel => exact ⟨k + 1, by omega, by go_num, (m' ++ [(a, b)]) ++ [(x, y)], HS, hO'⟩
          case measure => simp [intOf]; omega
        · have hgap' : x ≤ b := by omega
          clear hgap hlen
          by_cases hc : b < y
          · have HS := Lib.hid (HM.out.join (c := y) HSV.out hkl HE.out hgap' (by omega))
            clear HM
            go_wp2_with fail
            go_quiet (fail)
            go_wp2_with fail
            have hfz := hf (q * 2 + 1)
            go_big_region
            go_wp2_with fail
            go_roundw
            case rel => exact ⟨k + 1, by omega, by go_num, m' ++ [(a, y)], HS, by rw [HQ.out]; exact Own.put y ((HO.out.ext ((Ext.refl _).alloc _ _)).drewN (nq + 1))⟩
            case measure => simp [intOf]; omega
          · have HS := Lib.hid (HM.out.join (c := b) HSV.out hkl HE.out hgap' (by omega))
            clear HM
            go_wp2_with fail
            go_quiet (fail)
            go_wp2_with fail
            have hfz := hf (q * 2 + 1)
            go_big_region
            go_wp2_with fail
            go_roundw
            case rel => exact ⟨k + 1, by omega, by go_num, m' ++ [(a, b)], HS, by rw [HQ.out]; exact Own.put b ((HO.out.ext ((Ext.refl _).alloc _ _)).drewN (nq + 1))⟩
            case measure => simp [intOf]; omega
    · have hkn : k = n := by omega
      have hall : L.take k = L := by rw [hkn, HN.out]; exact List.take_length
      have HS := Lib.hid (show NF m ∧ ∀ t, memB m t = memB L t from ⟨HM.out.1, by have := HM.out.2.1; rwa [hall] at this⟩)
      clear hall hkn
      go_wp2_with fail
      go_ret
      exact ⟨_, m, rfl, HS.out.1, HS.out.2, hO.zero, hO.2⟩
end Go.Proofs.Ytckknhocmbhmhaa
