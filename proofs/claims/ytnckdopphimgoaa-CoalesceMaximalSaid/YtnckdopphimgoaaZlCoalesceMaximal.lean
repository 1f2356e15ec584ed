/- The law CoalesceMaximal. -/
import Derived.Test.YtnckdopphimgoaaZz39
import Derived.Test.YtnckdopphimgoaaZz45
import Derived.Test.YtnckdopphimgoaaZz40
namespace Go.Proofs.Ytnckdopphimgoaa
open Go.ChangeShapes Go.WideShapes Go.ChangeAt Go.RowKit

def LmR (W : World) (n : Nat) (i : Value) (wr : World) : Prop := ∃ k : Nat, k ≤ n ∧ i = .int .i64 k ∧ Ext W wr
set_option maxHeartbeats 8000000 in
set_option maxRecDepth 100000 in
theorem law_CoalesceMaximal (x : List Five) (vx : Value) (w : World) (rx : RdG w vx x) (kx : ∀ z ∈ x, z.ok) : Calls Try.prog 3 #[vx] w fun e w' => e = .returned (.bool true) ∧ Ext w w' := by
  have HX := Lib.hid rx
  have KX := Lib.hid kx
  clear rx kx
  go_enter Try.func3, Try.ntmps3
  go_wp2_with fail
  refine (built 16 (by omega) x vx w HX.out KX.out).mono ?_; rintro e w1 ⟨v1, ts, rfl, o1, i1, s1, n1⟩
  have HR := Lib.hid o1.rd
  have HE1 := Lib.hid o1.2
  have HI := Lib.hid i1
  have HS := Lib.hid s1
  have HN := Lib.hid n1
  clear o1 i1 s1 n1
  go_wp2_with fail
  refine (co_prg ts v1 w1 HR.out HI.out (by have := HN.out; omega) HS.out).mono ?_
  rintro e w3 ⟨v3, qs, rfl, s1, s2, s3, s4, s6, s5⟩
  have HQ1 := Lib.hid s1
  have HQ2 := Lib.hid s2
  have HQ3 := Lib.hid s3
  have HE3 := Lib.hid (HE1.out.trans s5)
  have hq16 : qs.length ≤ 16 := by have := HN.out; omega
  clear s2 s3 s4 s5 s6 HR HI HS HN HE1
  obtain ⟨ad, cap, rfl, g1, g2⟩ := s1.shape
  clear s1
  obtain ⟨n, hn⟩ : ∃ z, z = qs.length := ⟨_, rfl⟩
  have HNN := Lib.hid hn
  rw [← hn] at g1 HQ1 hq16
  rw [← hn]
  clear hn
  unfold maxLen at g2
  go_wp2_with fail
  go_loopw [13] (LmR w3 n) (fun i _ => n - (intOf i).toNat)
  case atStart => exact ⟨0, Nat.zero_le _, rfl, Ext.refl _⟩
  case round =>
    obtain ⟨k, hk, rfl, hE⟩ := hrel
    obtain ⟨wA, hwA⟩ : ∃ z, z = wr := ⟨_, rfl⟩
    subst hwA
    have HE := Lib.hid hE
    by_cases hlt : k < n
    · have hlt' : k < qs.length := by rw [← HNN.out]; exact hlt
      have hi0 : (0 : Int) ≤ (k : Int) := Int.natCast_nonneg _
      have hi1 : (k : Int) < (n : Int) := by omega
      have HQ5 := Lib.hid HQ1.out
      obtain ⟨g, o, rfl, c0', c1', c2', c3'⟩ := rd_T HQ1.out k hlt'
      have c0 := hE.keeps c0'
      have c1 := hE.keeps c1'
      have c2 := hE.keeps c2'
      have c3 := hE.keeps c3'
      have hmx : qs[k].tu ∈ tus qs := List.mem_map.2 ⟨_, List.getElem_mem _, rfl⟩
      have HAP := Lib.hid (fun y hy hv => co_apart HQ3.out hmx (y := y) hy hv)
      have hix := HQ2.out qs[k] (List.getElem_mem _)
      have HXV := Lib.hid hix.1
      clear c0' c1' c2' c3' hE hix hmx
      generalize qs[k] = y at *
      obtain ⟨⟨xa, xn, xc, xb, xm, xd⟩, xr, pa, pb⟩ := y
      simp only [Hd.x, Hd.y] at c0 c1 c2 c3 HXV HAP
      obtain ⟨B0, B1, B2, B3⟩ := box4 wA (.slice xa xn xc) (.int .i64 pa) (.int .i64 pb) (.slice xb xm xd) 31
      go_wp2_with fail
      go_loopw [19] (LmR (wA.alloc (.cells #[.slice xa xn xc, .int .i64 pa, .int .i64 pb, .slice xb xm xd] 31)) n) (fun i _ => n - (intOf i).toNat)
      case atStart => exact ⟨0, Nat.zero_le _, rfl, Ext.refl _⟩
      case round =>
        obtain ⟨k2, hk2, rfl, hE2⟩ := hrel
        have HE2 := Lib.hid ((HE.out.alloc #[.slice xa xn xc, .int .i64 pa, .int .i64 pb, .slice xb xm xd] 31).trans hE2)
        have HEB := Lib.hid hE2
        by_cases hlt2 : k2 < n
        · have hlt2' : k2 < qs.length := by rw [← HNN.out]; exact hlt2
          have hj0 : (0 : Int) ≤ (k2 : Int) := Int.natCast_nonneg _
          have hj1 : (k2 : Int) < (n : Int) := by omega
          obtain ⟨g', o', e', d0', d1', d2', d3'⟩ := rd_T HQ5.out k2 hlt2'
          simp only [Option.some.injEq, Addr.mk.injEq, and_true] at e'
          obtain ⟨rfl, rfl⟩ := e'
          have d0 := HE2.out.keeps d0'
          have d1 := HE2.out.keeps d1'
          have d2 := HE2.out.keeps d2'
          have d3 := HE2.out.keeps d3'
          have b0 := hE2.keeps B0
          have b1 := hE2.keeps B1
          have b2 := hE2.keeps B2
          have b3 := hE2.keeps B3
          have hsz : wA.heap.size < wr.heap.size := World.block_lt_of_cell? _ _ b0
          have hmy : qs[k2].tu ∈ tus qs := List.mem_map.2 ⟨_, List.getElem_mem _, rfl⟩
          have HC := Lib.hid (HAP.out _ hmy)
          have HYV := Lib.hid (HQ2.out qs[k2] (List.getElem_mem _)).1
          clear d0' d1' d2' d3' hmy hE2 B0 B1 B2 B3 c0 c1 c2 c3
          generalize qs[k2] = z at *
          obtain ⟨⟨ya, yn, yc, yb, ym, yd⟩, yr, qa, qb⟩ := z
          simp only [Hd.x, Hd.y] at d0 d1 d2 d3 HYV HC
          by_cases hm : pb = qa
          · subst hm
            have hz : cmpR xr.v yr.v ≠ 0 := fun e => HC.out ((cr_ord.zero _ _).1 e) rfl
            have HCR := Lib.hid (fun w2 (hg : Ext w3 w2) => crowsG_ref xr.v yr.v (.slice xa xn xc) (.slice ya yn yc) w2 (HXV.out.ext hg) (HYV.out.ext hg))
            generalize cmpR xr.v yr.v = c at *
            have hz1 : (c == 0) = false := by simpa using hz
            go_wp2_with fail
            refine (HCR.out _ (HE2.out.alloc _ _)).mono ?_; rintro e w5 ⟨rfl, hE5⟩
            have HE5 := Lib.hid (((Ext.refl wr).alloc #[.slice ya yn yc, .int .i64 pb, .int .i64 qb, .slice yb ym yd] 31).trans hE5)
            clear hE5
            go_wp2_with fail
            go_roundw
            case rel => exact ⟨k2 + 1, hlt2, by go_num, (by exact HEB.out.trans HE5.out)⟩
            case measure => first | (simp [intOf]; done) | (simp [intOf]; omega)
          · go_wp2_with fail
            go_roundw
            case rel => exact ⟨k2 + 1, hlt2, by go_num, (by first | exact HEB.out.alloc _ _ | exact HEB.out)⟩
            case measure => first | (simp [intOf]; done) | (simp [intOf]; omega)
        · go_wp2_with fail
          go_roundw
          case rel => exact ⟨k + 1, hlt, by go_num, HE2.out⟩
          case measure => first | (simp [intOf]; done) | (simp [intOf]; omega)
    · go_wp2_with fail
      refine (awake_law _).mono ?_; rintro e w5 ⟨rfl, hE5⟩
      go_wp2_with fail
      go_ret
      exact ⟨rfl, HE3.out.trans (HE.out.trans hE5)⟩
end Go.Proofs.Ytnckdopphimgoaa
