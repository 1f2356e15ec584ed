/- The law BagBalance. -/
import Derived.Test.YtohpmbabegpefaaAw8
import Derived.Test.YtohpmbabegpefaaBu11
namespace Go.Proofs.Ytohpmbabegpefaa
open Go.ChangeShapes Go.WideShapes Go.ChangeAt Go.RowKit

theorem sur_cnt_sort (A B : List R) (v : List V) : cnt (sur (cnt B) (sortR A)) v = cnt A v - cnt B v := by rw [sur_cnt, cnt_perm (sortR_perm A)]
def BbR (w : World) (N : Nat) (i : Value) (wr : World) : Prop := ∃ k : Nat, k ≤ N ∧ i = .int .i64 k ∧ Ext w wr
theorem small_of {ps : List P} (h : ∀ p ∈ ps, p.r.v.length ≤ 2 ∧ p.r.t.length ≤ 1) : Small ps := fun p hp => by have := h p hp; omega
set_option maxHeartbeats 8000000 in
set_option maxRecDepth 100000 in
theorem law_BagBalance (x y : List Five) (vx vy : Value) (w : World) (rx : RdG w vx x) (ry : RdG w vy y) (kx : ∀ z ∈ x, z.ok) (ky : ∀ z ∈ y, z.ok) : Calls Try.prog 7 #[vx, vy] w fun e w' => e = .returned (.bool true) ∧ Ext w w' := by
  have HX := Lib.hid rx
  have HY := Lib.hid ry
  have KX := Lib.hid kx
  have KY := Lib.hid ky
  clear rx ry kx ky
  go_enter Try.func7, Try.ntmps7
  go_wp2_with fail
  refine (rows_law x vx w HX.out KX.out).mono ?_; rintro e w1 ⟨va, ps, rfl, r1, i1, l1, s1, hE1⟩
  have X1 := Lib.hid hE1
  have RA := Lib.hid r1
  have IA := Lib.hid i1
  have SA := Lib.hid (small_of s1)
  have LA := Lib.hid l1
  clear hE1 r1 i1 l1 s1
  go_wp2_with fail
  refine (rows_law y vy w1 (HY.out.ext X1.out) KY.out).mono ?_; rintro e w2 ⟨vb, qs, rfl, r1, i1, l1, s1, hE2⟩
  have X2 := Lib.hid hE2
  have RB := Lib.hid r1
  have IB := Lib.hid i1
  have SB := Lib.hid (small_of s1)
  have LB := Lib.hid l1
  clear hE2 r1 i1 l1 s1
  go_wp2_with fail
  refine (diff_prg ps qs va vb w2 (RA.out.ext X2.out) RB.out (IA.out.ext X2.out) IB.out (by have := LA.out; omega) (by have := LB.out; omega) SA.out SB.out).mono ?_
  rintro e w3 ⟨vl, vg, os, ot, rfl, ⟨p1, p2, p3⟩, ⟨q1, q2, q3⟩, hE3⟩
  have X3 := Lib.hid hE3
  have P1 := Lib.hid p1
  have P2 := Lib.hid p2
  have P3 := Lib.hid p3
  have Q1 := Lib.hid q1
  have Q2 := Lib.hid q2
  have Q3 := Lib.hid q3
  have RA3 := Lib.hid (RA.out.ext (X2.out.trans X3.out))
  have IA3 := Lib.hid (IA.out.ext (X2.out.trans X3.out))
  have RB3 := Lib.hid (RB.out.ext X3.out)
  have IB3 := Lib.hid (IB.out.ext X3.out)
  clear hE3 p1 p2 p3 q1 q2 q3
  have FIRST : True := trivial
  go_wp2_with (first | (clear FIRST; at_builtin; refine appG tP rfl _ _ rfl w3 (.slice none 0 0) [] rfl ?a1 _ ps rfl ?a2 ?a3 ?_; (case a1 => exact OwnG.nil _ _ _ (Ext.refl _)); (have z2 := RA3.out; case a2 => exact z2); (case a3 => have := LA.out; simp; omega); intro v4 w4 hO4 hg4; rw [List.nil_append] at hO4; have HO4 := Lib.hid hO4; clear hO4) | (at_builtin; refine appG tP rfl _ _ rfl w3 v4 ps rfl ?a1 _ qs rfl ?a2 ?a3 ?_; (case a1 => exact HO4.out); (have z2 := RB3.out.ext HO4.out.2; case a2 => exact z2); (case a3 => have := LA.out; have := LB.out; omega); intro v5 w5 hO5 hg5; have X5 := Lib.hid hO5.2; have HTI := Lib.hid (show RdAll w5 (ps ++ qs) from fun p hp => by rcases List.mem_append.1 hp with hp | hp; exact (IA3.out p hp).ext hO5.2; exact (IB3.out p hp).ext hO5.2); generalize ps ++ qs = T at hO5 HTI; obtain ⟨a5, c5, rfl, h51, h52⟩ := hO5.rd.shape; have HTR := Lib.hid hO5.rd; clear hO5 hg5; obtain ⟨n, hn⟩ : ∃ n, n = T.length := ⟨_, rfl⟩; have HN := Lib.hid hn; rw [← hn] at HTR h51 ⊢; clear hn))
  unfold maxLen at h52
  go_loopw [28] (BbR w5 n) (fun i _ => n - (intOf i).toNat)
  case atStart => exact ⟨0, Nat.zero_le _, rfl, Ext.refl _⟩
  case round =>
    obtain ⟨k, hkn, rfl, hE⟩ := hrel
    by_cases hlt : k < n
    · have hlt' : k < T.length := by rw [← HN.out]; exact hlt
      obtain ⟨g, o, rfl, c0', c1'⟩ := rd_P HTR.out k hlt'
      have c0 := hE.keeps c0'
      have c1 := hE.keeps c1'
      have hix := HTI.out T[k] (List.getElem_mem _)
      clear c0' c1'
      generalize T[k] = p at *
      obtain ⟨⟨xa, xn, xc, xb, xm, xd⟩, xr⟩ := p
      simp only [Hd.x, Hd.y] at c0 c1
      have HVA := Lib.hid (fun z (hg : Ext w5 z) => mult_prg ps xr.v va (.slice xa xn xc) z (RA3.out.ext (X5.out.trans hg)) (IA3.out.ext (X5.out.trans hg)) (hix.1.ext hg))
      have HVB := Lib.hid (fun z (hg : Ext w5 z) => mult_prg qs xr.v vb (.slice xa xn xc) z (RB3.out.ext (X5.out.trans hg)) (IB3.out.ext (X5.out.trans hg)) (hix.1.ext hg))
      have hvl := fun z (hg : Ext w5 z) => mult_prg os xr.v vl (.slice xa xn xc) z (P1.out.ext (X5.out.trans hg)) (P2.out.ext (X5.out.trans hg)) (hix.1.ext hg)
      have hvg := fun z (hg : Ext w5 z) => mult_prg ot xr.v vg (.slice xa xn xc) z (Q1.out.ext (X5.out.trans hg)) (Q2.out.ext (X5.out.trans hg)) (hix.1.ext hg)
      rw [P3.out, sur_cnt_sort] at hvl
      rw [Q3.out, sur_cnt_sort] at hvg
      have hca : cnt (rows ps) xr.v ≤ 30 := Nat.le_trans (cnt_le _ _) (by rw [rows_len]; exact LA.out)
      have hcb : cnt (rows qs) xr.v ≤ 30 := Nat.le_trans (cnt_le _ _) (by rw [rows_len]; exact LB.out)
      generalize cnt (rows ps) xr.v = A at *
      generalize cnt (rows qs) xr.v = B at *
      clear hix
      have B0 : (wr.alloc (.cells #[.slice xa xn xc, .slice xb xm xd] 32)).cell? ⟨wr.heap.size, 0, none⟩ = some (.slice xa xn xc) := al0 _ _ _ _
      have EX : Ext wr (wr.alloc (.cells #[.slice xa xn xc, .slice xb xm xd] 32)) := (Ext.refl wr).alloc _ _
      have hcase : (A ≤ B ∧ ((A - B : Nat) : Int) = 0 ∧ ((B - A : Nat) : Int) = (B : Int) - (A : Int)) ∨ (B < A ∧ ((A - B : Nat) : Int) = (A : Int) - (B : Int) ∧ ((B - A : Nat) : Int) = 0) := by omega
      rcases hcase with ⟨hc, z1, z2⟩ | ⟨hc, z1, z2⟩
      · rw [z1] at hvl
        rw [z2] at hvg
        clear z1 z2
        by_cases hab : A = B
        · have j1 : ¬ (0 : Int) < (A : Int) - (B : Int) := by omega
          have j2 : ¬ (0 : Int) < (B : Int) - (A : Int) := by omega
          have j3 : (B : Int) - (A : Int) = 0 := by omega
          have j4 : (A : Int) - (B : Int) = 0 := by omega
          have HVL := Lib.hid hvl
          have HVG := Lib.hid hvg
          clear hvl hvg
          go_wp2_with fail
          generalize wr.alloc (.cells #[.slice xa xn xc, .slice xb xm xd] 32) = w0 at *
          have K0 := Lib.hid B0
          have HW0 := Lib.hid (hE.trans EX)
          have hw0 : wr.heap.size < w0.heap.size := World.block_lt_of_cell? _ _ B0
          clear c0 c1 EX
          have SECOND : True := trivial
          go_region_held3 (fun w' => w'.cell? ⟨wr.heap.size, 0, none⟩ = some (.slice xa xn xc)) (first | exact K0.out | exact f0 | exact f1 | go_keep)
                  (first | (clear SECOND; go_at_call 18; refine (HVA.out _ ?_).mono ?_; (first | exact HW0.out | exact HW0.out.drew); rintro e w6 ⟨rfl, hM6⟩; have e6 : Ext w0 w6 := ⟨hM6.1, hM6.2.1, hM6.2.2⟩; have f0 := e6.keeps K0.out) | (go_at_call 18; refine (HVB.out _ ?_).mono ?_; (first | exact HW0.out.trans e6 | exact (HW0.out.trans e6).drew); rintro e w7 ⟨rfl, hM7⟩; have e7 : Ext w6 w7 := ⟨hM7.1, hM7.2.1, hM7.2.2⟩; have f1 := e7.keeps f0))
          all_goals
            have HW7 := Lib.hid (HW0.out.trans (e6.trans e7))
            go_wp2_with fail
            refine (HVL.out _ HW7.out).mono ?_; rintro e w8 ⟨rfl, hM8⟩
            have f2 := hM8.keeps f1
            have HW8 := Lib.hid (HW7.out.trans hM8)
            clear hM8
            go_wp2_with fail
            refine (HVG.out _ HW8.out).mono ?_; rintro e w10 ⟨rfl, hM10⟩
            have HW10 := Lib.hid (HW8.out.trans hM10)
            clear hM10
            go_wp2_with fail
            go_roundw
            case rel => exact ⟨k + 1, by omega, by go_num, HW10.out⟩
            case measure => simp [intOf]; omega
        · obtain ⟨d1, hd1⟩ : ∃ d, (A : Int) - (B : Int) = d := ⟨_, rfl⟩
          obtain ⟨d2, hd2⟩ : ∃ d, (B : Int) - (A : Int) = d := ⟨_, rfl⟩
          rw [hd2] at hvg
          have j1 : ¬ (0 : Int) < d1 := by omega
          have j2 : (0 : Int) < d2 := by omega
          have w1' : wrap64 ((A : Int) - (B : Int)) = d1 := by unfold wrap64; omega
          have w2' : wrap64 ((B : Int) - (A : Int)) = d2 := by unfold wrap64; omega
          have m1 : max (0 : Int) d1 = 0 := by omega
          have m2 : max (0 : Int) d2 = d2 := by omega
          clear hd1 hd2
          clear hab hc hca hcb
          have HVL := Lib.hid hvl
          have HVG := Lib.hid hvg
          clear hvl hvg
          go_wp2_with fail
          generalize wr.alloc (.cells #[.slice xa xn xc, .slice xb xm xd] 32) = w0 at *
          have K0 := Lib.hid B0
          have HW0 := Lib.hid (hE.trans EX)
          have hw0 : wr.heap.size < w0.heap.size := World.block_lt_of_cell? _ _ B0
          clear c0 c1 EX
          have SECOND : True := trivial
          go_region_held3 (fun w' => w'.cell? ⟨wr.heap.size, 0, none⟩ = some (.slice xa xn xc)) (first | exact K0.out | exact f0 | exact f1 | go_keep)
                  (first | (clear SECOND; go_at_call 18; refine (HVA.out _ ?_).mono ?_; (first | exact HW0.out | exact HW0.out.drew); rintro e w6 ⟨rfl, hM6⟩; have e6 : Ext w0 w6 := ⟨hM6.1, hM6.2.1, hM6.2.2⟩; have f0 := e6.keeps K0.out) | (go_at_call 18; refine (HVB.out _ ?_).mono ?_; (first | exact HW0.out.trans e6 | exact (HW0.out.trans e6).drew); rintro e w7 ⟨rfl, hM7⟩; have e7 : Ext w6 w7 := ⟨hM7.1, hM7.2.1, hM7.2.2⟩; have f1 := e7.keeps f0))
          all_goals
            have HW7 := Lib.hid (HW0.out.trans (e6.trans e7))
            go_wp2_with fail
            refine (HVL.out _ HW7.out).mono ?_; rintro e w8 ⟨rfl, hM8⟩
            have f2 := hM8.keeps f1
            have HW8 := Lib.hid (HW7.out.trans hM8)
            clear hM8
            go_wp2_with fail
            refine (HVG.out _ HW8.out).mono ?_; rintro e w10 ⟨rfl, hM10⟩
            have HW10 := Lib.hid (HW8.out.trans hM10)
            clear hM10
            go_wp2_with fail
            go_roundw
            case rel => exact ⟨k + 1, by omega, by go_num, HW10.out⟩
            case measure => simp [intOf]; omega
      · rw [z1] at hvl
        rw [z2] at hvg
        obtain ⟨d1, hd1⟩ : ∃ d, (A : Int) - (B : Int) = d := ⟨_, rfl⟩
        obtain ⟨d2, hd2⟩ : ∃ d, (B : Int) - (A : Int) = d := ⟨_, rfl⟩
        rw [hd1] at hvl
        have j1 : (0 : Int) < d1 := by omega
        have j2 : ¬ (0 : Int) < d2 := by omega
        have w1' : wrap64 ((A : Int) - (B : Int)) = d1 := by unfold wrap64; omega
        have w2' : wrap64 ((B : Int) - (A : Int)) = d2 := by unfold wrap64; omega
        have m1 : max (0 : Int) d1 = d1 := by omega
        have m2 : max (0 : Int) d2 = 0 := by omega
        clear hd1 hd2
        clear hc hca hcb
        have HVL := Lib.hid hvl
        have HVG := Lib.hid hvg
        clear hvl hvg z1 z2
        go_wp2_with fail
        generalize wr.alloc (.cells #[.slice xa xn xc, .slice xb xm xd] 32) = w0 at *
        have K0 := Lib.hid B0
        have HW0 := Lib.hid (hE.trans EX)
        have hw0 : wr.heap.size < w0.heap.size := World.block_lt_of_cell? _ _ B0
        clear c0 c1 EX
        have SECOND : True := trivial
        go_region_held3 (fun w' => w'.cell? ⟨wr.heap.size, 0, none⟩ = some (.slice xa xn xc)) (first | exact K0.out | exact f0 | exact f1 | go_keep)
                (first | (clear SECOND; go_at_call 18; refine (HVA.out _ ?_).mono ?_; (first | exact HW0.out | exact HW0.out.drew); rintro e w6 ⟨rfl, hM6⟩; have e6 : Ext w0 w6 := ⟨hM6.1, hM6.2.1, hM6.2.2⟩; have f0 := e6.keeps K0.out) | (go_at_call 18; refine (HVB.out _ ?_).mono ?_; (first | exact HW0.out.trans e6 | exact (HW0.out.trans e6).drew); rintro e w7 ⟨rfl, hM7⟩; have e7 : Ext w6 w7 := ⟨hM7.1, hM7.2.1, hM7.2.2⟩; have f1 := e7.keeps f0))
        all_goals
          have HW7 := Lib.hid (HW0.out.trans (e6.trans e7))
          go_wp2_with fail
          refine (HVL.out _ HW7.out).mono ?_; rintro e w8 ⟨rfl, hM8⟩
          have f2 := hM8.keeps f1
          have HW8 := Lib.hid (HW7.out.trans hM8)
          clear hM8
          go_wp2_with fail
          refine (HVG.out _ HW8.out).mono ?_; rintro e w10 ⟨rfl, hM10⟩
          have HW10 := Lib.hid (HW8.out.trans hM10)
          clear hM10
          go_wp2_with fail
          go_roundw
          case rel => exact ⟨k + 1, by omega, by go_num, HW10.out⟩
          case measure => simp [intOf]; omega
    · go_wp2_with fail
      refine (awake_law _).mono ?_; rintro e w9 ⟨rfl, hE9⟩
      go_wp2_with fail
      go_ret
      exact ⟨rfl, X1.out.trans (X2.out.trans (X3.out.trans (X5.out.trans (hE.trans hE9))))⟩
end Go.Proofs.Ytohpmbabegpefaa
