/- The walk of the law PeriodComposeConverse: it returns true at every input. -/
import Derived.Test.YthendocboifjnaaCm4
import Derived.Test.YthendocboifjnaaCmpS
import Derived.IntWalk
namespace Go.Proofs.Ythendocboifjnaa
open Go.ChangeShapes Go.WideShapes Go.ChangeAt Go.RowKit

theorem wf_u8 {a : Int} (h : (Lit.int .u8 a).wf = true) : 0 ≤ a ∧ a ≤ 255 := by
  have h1 : IntKind.u8.min = 0 := by decide
  have h2 : IntKind.u8.max = 255 := by decide
  simp [Lit.wf] at h
  omega
theorem quietS {N : Nat} {args : Array Value} {v : Value} {w : World} {n : Nat} (h : ∀ w, Calls Try.prog N args w fun e w' => e = .returned v ∧ w = w') : Calls Try.prog N args (w.drewN n) fun e w'' => e = .returned v ∧ ∃ m, w'' = w.drewN m :=
  Calls.quiet_of_same ((h _).mono fun _ _ ⟨a, b⟩ => ⟨a, b.symm⟩)

/-- the two rows, as their reader sees them -/
def Pair (ga gb : Nat) (n : Nat) (w : World) : Prop := ∀ k, k < n → ∃ v : Int, 1 ≤ v ∧ v ≤ 13 ∧ w.cell? ⟨ga, k, none⟩ = some (.int .i64 v) ∧ w.cell? ⟨gb, n - 1 - k, none⟩ = some (.int .i64 (14 - v))
theorem comp_at (r s : Int) (l : List Int) (w : World) (h : compL r s = l) : Calls Try.prog 22 #[.int .i64 r, .int .i64 s] w (IntsPost l w) := by
  have := comp_per r s w; rwa [h] at this

set_option maxHeartbeats 8000000 in
theorem law_PeriodComposeConverse (r s : Int) (w : World) (r0 : 0 ≤ r) (r1 : r ≤ 255) (s0 : 0 ≤ s) (s1 : s ≤ 255) : Calls Try.prog 7 #[.int .u8 r, .int .u8 s] w fun e w' => e = .returned (.bool true) ∧ Ext w w' := by
  go_enter Try.func7, Try.ntmps7
  go_wp2_with fail
  have x0 : 1 ≤ 1 + r % 13 := by omega
  have x1 : 1 + r % 13 ≤ 13 := by omega
  have y0 : 1 ≤ 1 + s % 13 := by omega
  have y1 : 1 + s % 13 ≤ 13 := by omega
  generalize 1 + r % 13 = x at x0 x1 ⊢
  generalize 1 + s % 13 = y at y0 y1 ⊢
  obtain ⟨l, hl⟩ : ∃ l, compL x y = l := ⟨_, rfl⟩
  obtain ⟨m, hm⟩ : ∃ m, compL (14 - y) (14 - x) = m := ⟨_, rfl⟩
  have hne : l ≠ [] := by
    have := comp_some (x := x.toNat) (y := y.toNat) (by omega) (by omega) (by omega) (by omega)
    rw [show ((x.toNat : Nat) : Int) = x by omega, show ((y.toNat : Nat) : Int) = y by omega, hl] at this
    exact this
  obtain ⟨hlen, hpair⟩ := comp_conv x y l.length (by rw [hl])
  rw [hl, hm] at hpair
  rw [hm] at hlen
  obtain ⟨x', hx'⟩ : ∃ x', 14 - x = x' := ⟨_, rfl⟩
  obtain ⟨y', hy'⟩ : ∃ y', 14 - y = y' := ⟨_, rfl⟩
  rw [hx', hy'] at hm
  have hlb : l.length ≤ 14 := by rw [← hl]; exact compT_len x y 14
  have hpos : 0 < l.length := List.length_pos_iff.2 hne
  have HX := Lib.hid ((inv_inv x0 x1).1.trans hx')
  have HY := Lib.hid ((inv_inv y0 y1).1.trans hy')
  have HL := Lib.hid hl
  have HM := Lib.hid hm
  have HP := Lib.hid hpair
  have HN := Lib.hid hlen
  clear hl hm hne hpair hlen hx' hy' x0 x1 y0 y1
  refine (comp_at _ _ _ _ HL.out).mono ?_; rintro e w1 ⟨va, rfl, oa, hE1⟩
  go_wp2_with fail
  refine (inv_at _ _ _ HY.out).mono ?_; rintro e w2 ⟨rfl, rfl⟩
  go_wp2_with fail
  refine (inv_at _ _ _ HX.out).mono ?_; rintro e w2 ⟨rfl, rfl⟩
  go_wp2_with fail
  refine (comp_at _ _ _ _ HM.out).mono ?_; rintro e w2 ⟨vb, rfl, ob, hE2⟩
  have oa2 := hE2.owns oa
  clear oa
  rw [HN.out] at ob
  obtain ⟨ga, ca, rfl, _, _⟩ := oa2.form hpos
  obtain ⟨gb, cb, rfl, _, _⟩ := ob.form hpos
  have HQ : Hid (Pair ga gb l.length w2) := Lib.hid (fun k hk => by
    obtain ⟨v, v1, v2, v3, v4⟩ := HP.out k hk
    refine ⟨v, v1, v2, ?_, ?_⟩
    · rw [oa2.cellAt k (by omega)]; simp only [cellsI, List.getElem?_map, v3, Option.map_some]
    · rw [ob.cellAt (l.length - 1 - k) (by omega)]; simp only [cellsI, List.getElem?_map, v4, Option.map_some])
  obtain ⟨cc1, cc2⟩ := cap_of oa2
  obtain ⟨cc3, cc4⟩ := cap_of ob
  unfold maxLen at cc2 cc4
  have hE := hE1.trans hE2
  clear oa2 ob HP HN hE1 hE2 HL HM HX HY
  generalize l.length = n at hlb hpos HQ cc1 cc3 ⊢
  have t1 : ((n : Int) == 0) = false := beq_eq_false_iff_ne.2 (by omega)
  have t2 : (n == 0) = false := beq_eq_false_iff_ne.2 (by omega)
  go_wp2_with fail
  go_loopw [38] (fun i wr => ∃ k : Nat, k ≤ n ∧ i = .int .i64 k ∧ Grown w2 wr) (fun i _ => n - (intOf i).toNat)
  case atStart => exact ⟨0, by omega, rfl, Grown.refl _⟩
  case round =>
    obtain ⟨k, hk, rfl, hG⟩ := hrel
    by_cases hlt : k < n
    · obtain ⟨v, v1, v2, v3, v4⟩ := HQ.out k hlt
      have A0 := kept hG v3
      have B0 := kept hG v4
      have HV := Lib.hid (inv_inv v1 v2).1
      have hi0 : (0 : Int) ≤ (k : Int) := Int.natCast_nonneg _
      have hi1 : (k : Int) < (n : Int) := by omega
      clear v3 v4
      go_wp2_with fail
      have e0 : (0 : Int) ≤ (n : Int) - 1 - (k : Int) := by omega
      have e1 : (n : Int) - 1 - (k : Int) < (n : Int) := by omega
      have e2 : ((n : Int) - 1 - (k : Int)).toNat = n - 1 - k := by omega
      have e3 : IntKind.i64.wrap ((n : Int) - 1) = (n : Int) - 1 := IntWalk.i64_in _ ⟨by omega, by omega⟩
      have e4 : IntKind.i64.wrap ((n : Int) - 1 - (k : Int)) = (n : Int) - 1 - (k : Int) := IntWalk.i64_in _ ⟨by omega, by omega⟩
      go_quiet ((go_at_call 19; exact quietS (fun w => inv_at _ _ w HV.out)))
      clear e2 e3 e4
      go_wp2_with fail
      go_roundw
      case rel => exact ⟨k + 1, by omega, by go_num, grown_drewN' hG _⟩
      case measure => simp [intOf]; omega
    · go_wp2_with fail
      refine (awake_law _).mono ?_; rintro e w6 ⟨rfl, hE6⟩
      go_wp2_with fail
      go_ret
      exact ⟨rfl, (hE.trans (ext_of_grown hG)).trans hE6⟩
end Go.Proofs.Ythendocboifjnaa
