/- The walk of the law PeriodPoints: it returns true at every input. -/
import Derived.Test.YthendocboifjnaaCm4
namespace Go.Proofs.Ythendocboifjnaa
open Go.ChangeShapes Go.WideShapes Go.ChangeAt Go.RowKit

/-- how many of the periods include t -/
def cntP (l : List (Int × Int)) (t : Int) : Nat := l.countP fun p => incB p.1 p.2 t
theorem cntP_succ (l : List (Int × Int)) (t : Int) (k : Nat) (h : k < l.length) : cntP (l.take (k + 1)) t = cntP (l.take k) t + if incB l[k].1 l[k].2 t = true then 1 else 0 := by
  unfold cntP
  rw [List.take_succ_eq_append_getElem h, List.countP_append, List.countP_singleton]
theorem cntP_le (l : List (Int × Int)) (t : Int) : cntP l t ≤ l.length := List.countP_le_length
theorem cntP_cons (p : Int × Int) (l : List (Int × Int)) (t : Int) : cntP (p :: l) t = cntP l t + if incB p.1 p.2 t = true then 1 else 0 := by
  unfold cntP; rw [List.countP_cons]
theorem incB_iff (a b t : Int) : incB a b t = true ↔ (0 ≤ a ∧ a < b ∧ b ≤ 1099511627776) ∧ a ≤ t ∧ t < b := by simp [incB, okV]
theorem subL_len (a b c d : Int) : (subL a b c d).length ≤ 2 := by
  unfold subL leftL
  (repeat' split) <;> simp
/-- the part in the intersection -/
def inB (a b c d t : Int) : Bool := itB a b c d && incB (itF a b c d) (itT a b c d) t
theorem one_nat (p : Bool) : (if p = true then 1 else 0 : Nat) = p.toNat := by cases p <;> rfl
/-- every point of a valid period lies in exactly one part, no other point in any -/
theorem points (a b c d t : Int) : (inB a b c d t).toNat + cntP (subL a b c d) t = (incB a b t).toNat := by
  cases h : okV a b
  · have e1 : itB a b c d = false := by simp [itB, h]
    have e2 : subL a b c d = [] := by simp [subL, h]
    have e3 : incB a b t = false := by simp [incB, h]
    rw [e2, e3]; simp [inB, e1, cntP]
  · obtain ⟨a0, a1, a2⟩ := (okV_iff a b).1 h
    cases k : itB a b c d
    · have e2 : subL a b c d = [(a, b)] := by simp [subL, h, k]
      rw [e2, cntP_cons, one_nat]; simp [inB, k, cntP]
    · have hm : mxF a c < mnF b d := by simp [itB] at k; exact k.2
      have f1 : itF a b c d = mxF a c := by simp [itF, k]
      have f2 : itT a b c d = mnF b d := by simp [itT, k]
      have g1 : a ≤ mxF a c := by unfold mxF; split <;> omega
      have g2 : mnF b d ≤ b := by unfold mnF; split <;> omega
      have e2 : subL a b c d = leftL a b (itF a b c d) (itT a b c d) := by simp [subL, h, k]
      rw [e2, f1, f2]
      unfold inB
      rw [k, Bool.true_and, f1, f2]
      generalize mxF a c = x at hm g1
      generalize mnF b d = y at hm g2
      have i0 := incB_iff a b t
      have i1 := incB_iff x y t
      have i2 := incB_iff a x t
      have i3 := incB_iff y b t
      unfold leftL
      by_cases hl : a < x <;> by_cases hr : y < b
      all_goals
        first | rw [if_pos hl] | rw [if_neg hl]
        first | rw [if_pos hr] | rw [if_neg hr]
        simp only [List.nil_append, List.cons_append, cntP_cons, one_nat]
        rw [show cntP [] t = 0 from rfl]
        cases j0 : incB a b t <;> cases j1 : incB x y t <;> cases j2 : incB a x t <;> cases j3 : incB y b t <;> simp [j0, j1, j2, j3] at i0 i1 i2 i3 ⊢ <;> omega
theorem incp_at (a b t : Int) (v : Bool) (w : World) (h : incB a b t = v) : Calls Try.prog 15 #[pv a b, .int .i64 t] w fun e w' => e = .returned (.bool v) ∧ Grown w w' := by
  have := inc_per a b t w; rwa [h] at this
set_option maxHeartbeats 8000000 in
theorem pts_no (a b c d t : Int) (w : World) (h : itB a b c d = false) : Calls Try.prog 9 #[pv a b, pv c d, .int .i64 t] w fun e w' => e = .returned (.bool true) ∧ Ext w w' := by
  have HQ := Lib.hid (points a b c d t)
  rw [show inB a b c d t = false by simp [inB, h]] at HQ
  have HB := Lib.hid h
  clear h
  go_enter Try.func9, Try.ntmps9
  go_wp2_with fail
  refine (pis_at_no _ _ _ _ _ HB.out).mono ?_; rintro e w1 ⟨rfl, hg⟩
  obtain ⟨k0, k1, k2, k3⟩ := boxes hg (Grown.refl _)
  have hE : Ext w w1 := (((Ext.refl _).alloc _ _).alloc _ _).trans (ext_of_grown hg)
  have z0 : w.heap.size < w1.heap.size := World.block_lt_of_cell? _ _ k0
  have z1 : w.heap.size + 1 < w1.heap.size := World.block_lt_of_cell? _ _ k2
  clear hg
  go_wp2_with fail
  refine (sub_per _ _ _ _ _).mono ?_; rintro e w5 ⟨v, rfl, ho, e5⟩
  have p0 := e5.keeps (kept ((Grown.refl _).alloc _ _) k0)
  have p1 := e5.keeps (kept ((Grown.refl _).alloc _ _) k1)
  have hE5 := (hE.alloc _ _).trans e5
  obtain ⟨ad, cap, rfl, hlm, hsh⟩ := owns_shape ho
  have hln := subL_len a b c d
  generalize subL a b c d = l at hln hlm hsh HQ ⊢
  obtain ⟨n, hn⟩ : ∃ n, n = l.length := ⟨_, rfl⟩
  have SH := Lib.hid hsh
  have HN := Lib.hid hn
  have P0 := Lib.hid p0
  have P1 := Lib.hid p1
  unfold maxLen at hlm
  rw [← hn]
  rw [← hn] at hlm hln
  clear hsh hn p0 p1 k0 k1 k2 k3 ho e5 hE
  go_wp2_with fail
  go_loopw [9, 30] (fun m i wr => ∃ k : Nat, k ≤ n ∧ i = .int .i64 k ∧ m = .int .i64 (0 + (cntP (l.take k) t : Int)) ∧ Ext w5 wr) (fun _ i _ => n - (intOf i).toNat)
  case atStart => exact ⟨0, by omega, rfl, rfl, Ext.refl _⟩
  case round =>
    obtain ⟨k, hk, rfl, rfl, hX⟩ := hrel
    have hq := cntP_le (l.take k) t
    rw [List.length_take] at hq
    by_cases hlt : k < n
    · have hkl : k < l.length := by rw [← HN.out]; exact hlt
      obtain ⟨g, rfl, c0', c1'⟩ := SH.out k hkl
      have c0 := hX.keeps c0'
      have c1 := hX.keeps c1'
      have hs := cntP_succ l t k hkl
      have hi1 : (k : Int) < (n : Int) := by omega
      generalize l[k].1 = x at c0 hs
      generalize l[k].2 = y at c1 hs
      have q1 : (cntP (l.take k) t : Int) ≤ 2 := by omega
      have q0 : (0 : Int) ≤ (cntP (l.take k) t : Int) := by omega
      clear c0' c1' hq
      cases hi : incB x y t
      · have HI := Lib.hid hi
        have HS := Lib.hid (show cntP (l.take (k + 1)) t = cntP (l.take k) t by rw [hs, hi]; rfl)
        clear hi hs
        go_wp2_with fail
        refine (incp_at _ _ _ _ _ HI.out).mono ?_; rintro e w6 ⟨rfl, hg6⟩
        have hX6 := (hX.alloc _ _).trans (ext_of_grown hg6)
        clear c0 c1 hg6
        go_wp2_with fail
        go_roundw
        case rel => exact ⟨k + 1, by omega, by go_num, by rw [HS.out] <;> exact congrArg (Value.int .i64) (by omega), hX6⟩
        case measure => simp [intOf]; omega
      · have HI := Lib.hid hi
        have HS := Lib.hid (show cntP (l.take (k + 1)) t = cntP (l.take k) t + 1 by rw [hs, hi]; rfl)
        clear hi hs
        go_wp2_with fail
        refine (incp_at _ _ _ _ _ HI.out).mono ?_; rintro e w6 ⟨rfl, hg6⟩
        have hX6 := (hX.alloc _ _).trans (ext_of_grown hg6)
        clear c0 c1 hg6
        go_wp2_with fail
        go_roundw
        case rel => exact ⟨k + 1, by omega, by go_num, by rw [HS.out] <;> exact congrArg (Value.int .i64) (by omega), hX6⟩
        case measure => simp [intOf]; omega
    · have hkn : k = n := by omega
      have hall : l.take k = l := by rw [hkn, HN.out]; exact List.take_length
      rw [hall]
      have hqq := HQ.out
      cases hi : incB a b t
      · rw [hi] at hqq
        rw [show (0 : Int) + (cntP l t : Int) = 0 by simp at hqq <;> omega]
        have HI := Lib.hid hi
        clear hi hall hqq hq hkn
        go_wp2_with fail
        refine (awake_law _).mono ?_; rintro e w6 ⟨rfl, hE6⟩
        have p0 := (hX.trans hE6).keeps P0.out
        have p1 := (hX.trans hE6).keeps P1.out
        go_wp2_with fail
        refine (incp_at _ _ _ _ _ HI.out).mono ?_; rintro e w7 ⟨rfl, hg7⟩
        go_wp2_with fail
        go_ret
        exact ⟨rfl, ((hE5.trans hX).trans hE6).trans (ext_of_grown hg7)⟩
      · rw [hi] at hqq
        rw [show (0 : Int) + (cntP l t : Int) = 1 by simp at hqq <;> omega]
        have HI := Lib.hid hi
        clear hi hall hqq hq hkn
        go_wp2_with fail
        refine (awake_law _).mono ?_; rintro e w6 ⟨rfl, hE6⟩
        have p0 := (hX.trans hE6).keeps P0.out
        have p1 := (hX.trans hE6).keeps P1.out
        go_wp2_with fail
        refine (incp_at _ _ _ _ _ HI.out).mono ?_; rintro e w7 ⟨rfl, hg7⟩
        go_wp2_with fail
        go_ret
        exact ⟨rfl, ((hE5.trans hX).trans hE6).trans (ext_of_grown hg7)⟩
set_option maxHeartbeats 8000000 in
theorem pts_out (a b c d t : Int) (w : World) (h : itB a b c d = true) (k : incB (itF a b c d) (itT a b c d) t = false) : Calls Try.prog 9 #[pv a b, pv c d, .int .i64 t] w fun e w' => e = .returned (.bool true) ∧ Ext w w' := by
  have HQ := Lib.hid (points a b c d t)
  rw [show inB a b c d t = false by simp [inB, h, k]] at HQ
  have HB := Lib.hid h
  have HK := Lib.hid k
  clear h k
  go_enter Try.func9, Try.ntmps9
  go_wp2_with fail
  refine (pis_at_yes _ _ _ _ _ _ _ HB.out rfl rfl).mono ?_; rintro e w1 ⟨rfl, hg⟩
  obtain ⟨k0, k1, k2, k3⟩ := boxes hg (Grown.refl _)
  have hE : Ext w w1 := (((Ext.refl _).alloc _ _).alloc _ _).trans (ext_of_grown hg)
  have z0 : w.heap.size < w1.heap.size := World.block_lt_of_cell? _ _ k0
  have z1 : w.heap.size + 1 < w1.heap.size := World.block_lt_of_cell? _ _ k2
  clear hg
  go_wp2_with fail
  refine (incp_at _ _ _ _ _ HK.out).mono ?_; rintro e w2 ⟨rfl, hg2⟩
  have hE2 := (hE.alloc _ _).trans (ext_of_grown hg2)
  have m0 := kept hg2 (kept ((Grown.refl _).alloc _ _) k0)
  have m1 := kept hg2 (kept ((Grown.refl _).alloc _ _) k1)
  have m2 := kept hg2 (kept ((Grown.refl _).alloc _ _) k2)
  have m3 := kept hg2 (kept ((Grown.refl _).alloc _ _) k3)
  clear k0 k1 k2 k3 hE hg2
  go_wp2_with fail
  refine (sub_per _ _ _ _ _).mono ?_; rintro e w5 ⟨v, rfl, ho, e5⟩
  have p0 := e5.keeps m0
  have p1 := e5.keeps m1
  have hE5 := hE2.trans e5
  obtain ⟨ad, cap, rfl, hlm, hsh⟩ := owns_shape ho
  have hln := subL_len a b c d
  generalize subL a b c d = l at hln hlm hsh HQ ⊢
  obtain ⟨n, hn⟩ : ∃ n, n = l.length := ⟨_, rfl⟩
  have SH := Lib.hid hsh
  have HN := Lib.hid hn
  have P0 := Lib.hid p0
  have P1 := Lib.hid p1
  unfold maxLen at hlm
  rw [← hn]
  rw [← hn] at hlm hln
  clear hsh hn p0 p1 m0 m1 m2 m3 ho e5 hE2
  go_wp2_with fail
  go_loopw [9, 30] (fun m i wr => ∃ k : Nat, k ≤ n ∧ i = .int .i64 k ∧ m = .int .i64 (0 + (cntP (l.take k) t : Int)) ∧ Ext w5 wr) (fun _ i _ => n - (intOf i).toNat)
  case atStart => exact ⟨0, by omega, rfl, rfl, Ext.refl _⟩
  case round =>
    obtain ⟨k, hk, rfl, rfl, hX⟩ := hrel
    have hq := cntP_le (l.take k) t
    rw [List.length_take] at hq
    by_cases hlt : k < n
    · have hkl : k < l.length := by rw [← HN.out]; exact hlt
      obtain ⟨g, rfl, c0', c1'⟩ := SH.out k hkl
      have c0 := hX.keeps c0'
      have c1 := hX.keeps c1'
      have hs := cntP_succ l t k hkl
      have hi1 : (k : Int) < (n : Int) := by omega
      generalize l[k].1 = x at c0 hs
      generalize l[k].2 = y at c1 hs
      have q1 : (cntP (l.take k) t : Int) ≤ 2 := by omega
      have q0 : (0 : Int) ≤ (cntP (l.take k) t : Int) := by omega
      clear c0' c1' hq
      cases hi : incB x y t
      · have HI := Lib.hid hi
        have HS := Lib.hid (show cntP (l.take (k + 1)) t = cntP (l.take k) t by rw [hs, hi]; rfl)
        clear hi hs
        go_wp2_with fail
        refine (incp_at _ _ _ _ _ HI.out).mono ?_; rintro e w6 ⟨rfl, hg6⟩
        have hX6 := (hX.alloc _ _).trans (ext_of_grown hg6)
        clear c0 c1 hg6
        go_wp2_with fail
        go_roundw
        case rel => exact ⟨k + 1, by omega, by go_num, by rw [HS.out] <;> exact congrArg (Value.int .i64) (by omega), hX6⟩
        case measure => simp [intOf]; omega
      · have HI := Lib.hid hi
        have HS := Lib.hid (show cntP (l.take (k + 1)) t = cntP (l.take k) t + 1 by rw [hs, hi]; rfl)
        clear hi hs
        go_wp2_with fail
        refine (incp_at _ _ _ _ _ HI.out).mono ?_; rintro e w6 ⟨rfl, hg6⟩
        have hX6 := (hX.alloc _ _).trans (ext_of_grown hg6)
        clear c0 c1 hg6
        go_wp2_with fail
        go_roundw
        case rel => exact ⟨k + 1, by omega, by go_num, by rw [HS.out] <;> exact congrArg (Value.int .i64) (by omega), hX6⟩
        case measure => simp [intOf]; omega
    · have hkn : k = n := by omega
      have hall : l.take k = l := by rw [hkn, HN.out]; exact List.take_length
      rw [hall]
      have hqq := HQ.out
      cases hi : incB a b t
      · rw [hi] at hqq
        rw [show (0 : Int) + (cntP l t : Int) = 0 by simp at hqq <;> omega]
        have HI := Lib.hid hi
        clear hi hall hqq hq hkn
        go_wp2_with fail
        refine (awake_law _).mono ?_; rintro e w6 ⟨rfl, hE6⟩
        have p0 := (hX.trans hE6).keeps P0.out
        have p1 := (hX.trans hE6).keeps P1.out
        go_wp2_with fail
        refine (incp_at _ _ _ _ _ HI.out).mono ?_; rintro e w7 ⟨rfl, hg7⟩
        go_wp2_with fail
        go_ret
        exact ⟨rfl, ((hE5.trans hX).trans hE6).trans (ext_of_grown hg7)⟩
      · rw [hi] at hqq
        rw [show (0 : Int) + (cntP l t : Int) = 1 by simp at hqq <;> omega]
        have HI := Lib.hid hi
        clear hi hall hqq hq hkn
        go_wp2_with fail
        refine (awake_law _).mono ?_; rintro e w6 ⟨rfl, hE6⟩
        have p0 := (hX.trans hE6).keeps P0.out
        have p1 := (hX.trans hE6).keeps P1.out
        go_wp2_with fail
        refine (incp_at _ _ _ _ _ HI.out).mono ?_; rintro e w7 ⟨rfl, hg7⟩
        go_wp2_with fail
        go_ret
        exact ⟨rfl, ((hE5.trans hX).trans hE6).trans (ext_of_grown hg7)⟩
set_option maxHeartbeats 8000000 in
theorem pts_in (a b c d t : Int) (w : World) (h : itB a b c d = true) (k : incB (itF a b c d) (itT a b c d) t = true) : Calls Try.prog 9 #[pv a b, pv c d, .int .i64 t] w fun e w' => e = .returned (.bool true) ∧ Ext w w' := by
  have HQ := Lib.hid (points a b c d t)
  rw [show inB a b c d t = true by simp [inB, h, k]] at HQ
  have HB := Lib.hid h
  have HK := Lib.hid k
  clear h k
  go_enter Try.func9, Try.ntmps9
  go_wp2_with fail
  refine (pis_at_yes _ _ _ _ _ _ _ HB.out rfl rfl).mono ?_; rintro e w1 ⟨rfl, hg⟩
  obtain ⟨k0, k1, k2, k3⟩ := boxes hg (Grown.refl _)
  have hE : Ext w w1 := (((Ext.refl _).alloc _ _).alloc _ _).trans (ext_of_grown hg)
  have z0 : w.heap.size < w1.heap.size := World.block_lt_of_cell? _ _ k0
  have z1 : w.heap.size + 1 < w1.heap.size := World.block_lt_of_cell? _ _ k2
  clear hg
  go_wp2_with fail
  refine (incp_at _ _ _ _ _ HK.out).mono ?_; rintro e w2 ⟨rfl, hg2⟩
  have hE2 := (hE.alloc _ _).trans (ext_of_grown hg2)
  have m0 := kept hg2 (kept ((Grown.refl _).alloc _ _) k0)
  have m1 := kept hg2 (kept ((Grown.refl _).alloc _ _) k1)
  have m2 := kept hg2 (kept ((Grown.refl _).alloc _ _) k2)
  have m3 := kept hg2 (kept ((Grown.refl _).alloc _ _) k3)
  clear k0 k1 k2 k3 hE hg2
  go_wp2_with fail
  refine (sub_per _ _ _ _ _).mono ?_; rintro e w5 ⟨v, rfl, ho, e5⟩
  have p0 := e5.keeps m0
  have p1 := e5.keeps m1
  have hE5 := hE2.trans e5
  obtain ⟨ad, cap, rfl, hlm, hsh⟩ := owns_shape ho
  have hln := subL_len a b c d
  generalize subL a b c d = l at hln hlm hsh HQ ⊢
  obtain ⟨n, hn⟩ : ∃ n, n = l.length := ⟨_, rfl⟩
  have SH := Lib.hid hsh
  have HN := Lib.hid hn
  have P0 := Lib.hid p0
  have P1 := Lib.hid p1
  unfold maxLen at hlm
  rw [← hn]
  rw [← hn] at hlm hln
  clear hsh hn p0 p1 m0 m1 m2 m3 ho e5 hE2
  go_wp2_with fail
  go_loopw [9, 30] (fun m i wr => ∃ k : Nat, k ≤ n ∧ i = .int .i64 k ∧ m = .int .i64 (1 + (cntP (l.take k) t : Int)) ∧ Ext w5 wr) (fun _ i _ => n - (intOf i).toNat)
  case atStart => exact ⟨0, by omega, rfl, rfl, Ext.refl _⟩
  case round =>
    obtain ⟨k, hk, rfl, rfl, hX⟩ := hrel
    have hq := cntP_le (l.take k) t
    rw [List.length_take] at hq
    by_cases hlt : k < n
    · have hkl : k < l.length := by rw [← HN.out]; exact hlt
      obtain ⟨g, rfl, c0', c1'⟩ := SH.out k hkl
      have c0 := hX.keeps c0'
      have c1 := hX.keeps c1'
      have hs := cntP_succ l t k hkl
      have hi1 : (k : Int) < (n : Int) := by omega
      generalize l[k].1 = x at c0 hs
      generalize l[k].2 = y at c1 hs
      have q1 : (cntP (l.take k) t : Int) ≤ 2 := by omega
      have q0 : (0 : Int) ≤ (cntP (l.take k) t : Int) := by omega
      clear c0' c1' hq
      cases hi : incB x y t
      · have HI := Lib.hid hi
        have HS := Lib.hid (show cntP (l.take (k + 1)) t = cntP (l.take k) t by rw [hs, hi]; rfl)
        clear hi hs
        go_wp2_with fail
        refine (incp_at _ _ _ _ _ HI.out).mono ?_; rintro e w6 ⟨rfl, hg6⟩
        have hX6 := (hX.alloc _ _).trans (ext_of_grown hg6)
        clear c0 c1 hg6
        go_wp2_with fail
        go_roundw
        case rel => exact ⟨k + 1, by omega, by go_num, by rw [HS.out] <;> exact congrArg (Value.int .i64) (by omega), hX6⟩
        case measure => simp [intOf]; omega
      · have HI := Lib.hid hi
        have HS := Lib.hid (show cntP (l.take (k + 1)) t = cntP (l.take k) t + 1 by rw [hs, hi]; rfl)
        clear hi hs
        go_wp2_with fail
        refine (incp_at _ _ _ _ _ HI.out).mono ?_; rintro e w6 ⟨rfl, hg6⟩
        have hX6 := (hX.alloc _ _).trans (ext_of_grown hg6)
        clear c0 c1 hg6
        go_wp2_with fail
        go_roundw
        case rel => exact ⟨k + 1, by omega, by go_num, by rw [HS.out] <;> exact congrArg (Value.int .i64) (by omega), hX6⟩
        case measure => simp [intOf]; omega
    · have hkn : k = n := by omega
      have hall : l.take k = l := by rw [hkn, HN.out]; exact List.take_length
      rw [hall]
      have hqq := HQ.out
      cases hi : incB a b t
      · rw [hi] at hqq
        rw [show (1 : Int) + (cntP l t : Int) = 0 by simp at hqq <;> omega]
        have HI := Lib.hid hi
        clear hi hall hqq hq hkn
        go_wp2_with fail
        refine (awake_law _).mono ?_; rintro e w6 ⟨rfl, hE6⟩
        have p0 := (hX.trans hE6).keeps P0.out
        have p1 := (hX.trans hE6).keeps P1.out
        go_wp2_with fail
        refine (incp_at _ _ _ _ _ HI.out).mono ?_; rintro e w7 ⟨rfl, hg7⟩
        go_wp2_with fail
        go_ret
        exact ⟨rfl, ((hE5.trans hX).trans hE6).trans (ext_of_grown hg7)⟩
      · rw [hi] at hqq
        rw [show (1 : Int) + (cntP l t : Int) = 1 by simp at hqq <;> omega]
        have HI := Lib.hid hi
        clear hi hall hqq hq hkn
        go_wp2_with fail
        refine (awake_law _).mono ?_; rintro e w6 ⟨rfl, hE6⟩
        have p0 := (hX.trans hE6).keeps P0.out
        have p1 := (hX.trans hE6).keeps P1.out
        go_wp2_with fail
        refine (incp_at _ _ _ _ _ HI.out).mono ?_; rintro e w7 ⟨rfl, hg7⟩
        go_wp2_with fail
        go_ret
        exact ⟨rfl, ((hE5.trans hX).trans hE6).trans (ext_of_grown hg7)⟩
theorem law_PeriodPoints (a b c d t : Int) (w : World) : Calls Try.prog 9 #[pv a b, pv c d, .int .i64 t] w fun e w' => e = .returned (.bool true) ∧ Ext w w' := by
  cases h : itB a b c d
  · exact pts_no a b c d t w h
  · cases k : incB (itF a b c d) (itT a b c d) t
    · exact pts_out a b c d t w h k
    · exact pts_in a b c d t w h k
end Go.Proofs.Ythendocboifjnaa
