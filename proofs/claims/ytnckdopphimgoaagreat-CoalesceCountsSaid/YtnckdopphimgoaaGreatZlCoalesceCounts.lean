/- The law CoalesceCounts. -/
import Derived.Test.YtnckdopphimgoaaGreatZz32
import Derived.Test.YtnckdopphimgoaaGreatZz41
import Derived.Test.YtnckdopphimgoaaGreatZz44
namespace Go.Proofs.YtnckdopphimgoaaGreat
open Go.ChangeShapes Go.WideShapes Go.ChangeAt Go.RowKit

def LkR (W : World) (n : Nat) (i : Value) (wr : World) : Prop := ∃ k : Nat, k ≤ n ∧ i = .int .i64 k ∧ Ext W wr
set_option maxHeartbeats 8000000 in
set_option maxRecDepth 100000 in
theorem law_CoalesceCounts (x : List Five) (t : Int) (vx : Value) (w : World) (rx : RdG w vx x) (kx : ∀ z ∈ x, z.ok) (t0 : 0 ≤ t) (_t1 : t ≤ 65535) : Calls Tryz.prog 4 #[vx, .int .u16 t] w fun e w' => e = .returned (.bool true) ∧ Ext w w' := by
  have HX := Lib.hid rx
  have KX := Lib.hid kx
  obtain ⟨m, hm⟩ : ∃ m, m = t % 60 := ⟨_, rfl⟩
  have hm1 : Int.tmod t 60 = m := by rw [Int.tmod_eq_emod_of_nonneg t0]; exact hm.symm
  have hm2 := hm.symm
  have hmb : 0 ≤ m ∧ m < 60 := by omega
  have wm1 := wrapU m (by omega) (by omega)
  have wm2 := wrapI m (by omega) (by omega)
  clear hm rx kx t0
  go_enter Tryz.func4, Tryz.ntmps4
  go_wp2_with fail
  refine (built 16 (by omega) x vx w HX.out KX.out).mono ?_; rintro e w1 ⟨v1, ts, rfl, o1, i1, s1, n1⟩
  have HR := Lib.hid o1.rd
  have HE1 := Lib.hid o1.2
  have HI := Lib.hid i1
  have HS := Lib.hid s1
  have HN := Lib.hid n1
  clear o1 i1 s1 n1
  go_wp2_with fail
  refine (tslice_prg ts m v1 _ HR.out HI.out (by have := HN.out; omega) HS.out).mono ?_
  rintro e w2 ⟨v2, ra, rfl, s1, s2, s3, s4⟩
  have HA1 := Lib.hid s1
  have HA2 := Lib.hid s2
  have HA3 := Lib.hid s3
  have HE2 := Lib.hid s4
  clear s1 s2 s3 s4
  go_wp2_with fail
  refine (co_prg ts v1 w2 (HR.out.ext HE2.out) (HI.out.ext HE2.out) (by have := HN.out; omega) HS.out).mono ?_
  rintro e w3 ⟨v3, qs, rfl, s1, s2, s3, s4, s6, s5⟩
  have HQ1 := Lib.hid s1
  have HQ2 := Lib.hid s2
  have HQ3 := Lib.hid s3
  have HQ4 := Lib.hid s4
  have HQ6 := Lib.hid s6
  have HE3 := Lib.hid s5
  clear s1 s2 s3 s4 s5 s6
  go_wp2_with fail
  refine (tslice_prg qs m v3 w3 HQ1.out HQ2.out (by have := HN.out; have := HQ4.out; omega) HQ6.out).mono ?_
  rintro e w4 ⟨v4, bs, rfl, s1, s2, s3, s4⟩
  have HB1 := Lib.hid s1
  have HB2 := Lib.hid s2
  have HB3 := Lib.hid s3
  have HE4 := Lib.hid (HE3.out.trans s4)
  have HA4 := Lib.hid (HA1.out.ext HE4.out)
  have HA5 := Lib.hid (HA2.out.ext HE4.out)
  have HLE := Lib.hid (show bs.length = ra.length by
    have h1 := co_len HQ3.out m
    rw [← HB3.out, ← HA3.out, rows_len, rows_len] at h1
    exact h1)
  have HCN := Lib.hid (fun vl : List V => show cnt (rows bs) vl = cnt (rows ra) vl by
    rw [HB3.out, HA3.out]
    exact co_cnt HQ3.out m vl)
  have HEA := Lib.hid ((HE1.out.trans HE2.out).trans HE4.out)
  clear s1 s2 s3 s4 HA1 HA2 HA3 HB3 HQ1 HQ2 HQ3 HQ4 HQ6 HE1 HE2 HE3 HE4 hm1 hm2 wm1 wm2
  obtain ⟨aa, ca, rfl, g1, g2⟩ := HA4.out.shape
  obtain ⟨ab, cb, rfl, g3, g4⟩ := HB1.out.shape
  rw [HLE.out] at g3 HB1
  rw [HLE.out]
  obtain ⟨n, hn⟩ : ∃ z, z = ra.length := ⟨_, rfl⟩
  have HNN := Lib.hid hn
  rw [← hn] at g1 g3 HA4 HB1
  rw [← hn]
  clear hn
  unfold maxLen at g2 g4
  go_wp2_with fail
  go_loopw [25] (LkR w4 n) (fun i _ => n - (intOf i).toNat)
  case atStart => exact ⟨0, Nat.zero_le _, rfl, Ext.refl _⟩
  case round =>
    obtain ⟨k, hk, rfl, hE⟩ := hrel
    have HE := Lib.hid hE
    by_cases hlt : k < n
    · have hlt' : k < ra.length := by rw [← HNN.out]; exact hlt
      have hi0 : (0 : Int) ≤ (k : Int) := Int.natCast_nonneg _
      have hi1 : (k : Int) < (n : Int) := by omega
      obtain ⟨g, o, rfl, c0', c1'⟩ := rd_P HA4.out k hlt'
      have c0 := hE.keeps c0'
      have c1 := hE.keeps c1'
      have hix := HA5.out ra[k] (List.getElem_mem _)
      clear c0' c1' hE
      generalize ra[k] = y at *
      obtain ⟨⟨xa, xn, xc, xb, xm, xd⟩, xr⟩ := y
      simp only [Hd.x, Hd.y] at c0 c1
      have hva := fun w2 (hg : Ext w4 w2) => mult_ref ra xr.v _ _ w2 (HA4.out.ext hg) (HA5.out.ext hg) (hix.1.ext hg)
      have hvb := fun w2 (hg : Ext w4 w2) => mult_ref bs xr.v _ _ w2 (HB1.out.ext hg) (HB2.out.ext hg) (hix.1.ext hg)
      simp only [HCN.out] at hvb
      have HVA := Lib.hid hva
      have HVB := Lib.hid hvb
      clear hva hvb hix
      generalize cnt (rows ra) xr.v = q at *
      simp only [Hd.x] at HVA HVB
      obtain ⟨W0, hW0⟩ : ∃ W0, W0 = wr.alloc (.cells #[.slice xa xn xc, .slice xb xm xd] 36) := ⟨_, rfl⟩
      have EW : Ext w4 W0 := by rw [hW0]; exact HE.out.alloc _ _
      have e0 : W0.cell? ⟨wr.heap.size, 0, none⟩ = some (.slice xa xn xc) := by rw [hW0]; exact al_c wr _ _ 0 _ rfl
      have HW0 := Lib.hid hW0
      have HEW := Lib.hid EW
      have HE0 := Lib.hid e0
      clear hW0 EW e0
      go_wp2_with fail
      rw [← HW0.out]
      clear c0 c1
      go_region_held3 (fun w' => w'.cell? ⟨wr.heap.size, 0, none⟩ = some (.slice xa xn xc)) (first | exact HE0.out | exact HF0.out | exact HG0.out | go_keep)
        (first
          | (go_at_call 13; have mk2 := mk1; refine (HVB.out _ (by first | exact HFE.out | exact HFE.out.drew)).mono ?_; rintro e y2 ⟨rfl, hy2⟩; have HGE : Hid (Ext w4 y2) := Lib.hid (by first | exact HFE.out.trans hy2 | exact HFE.out.drew.trans hy2); have HG0 : Hid (y2.cell? ⟨wr.heap.size, 0, none⟩ = some (.slice xa xn xc)) := Lib.hid (hy2.keeps HF0.out); clear hy2)
          | (go_at_call 13; refine (HVA.out _ (by first | exact HEW.out | exact HEW.out.drew)).mono ?_; rintro e y1 ⟨rfl, hy1⟩; have HFE : Hid (Ext w4 y1) := Lib.hid (by first | exact HEW.out.trans hy1 | exact HEW.out.drew.trans hy1); have HF0 : Hid (y1.cell? ⟨wr.heap.size, 0, none⟩ = some (.slice xa xn xc)) := Lib.hid (hy1.keeps HE0.out); have mk1 : True := trivial; clear hy1))
      all_goals
        go_wp2_with fail
        go_roundw
        case rel => exact ⟨k + 1, hlt, by go_num, by first | exact HGE.out | exact HGE.out.drew⟩
        case measure => first | (simp [intOf]; done) | (simp [intOf]; omega)
    · go_wp2_with fail
      refine (awake_law _).mono ?_; rintro e w5 ⟨rfl, hE5⟩
      go_wp2_with fail
      go_ret
      exact ⟨rfl, HEA.out.trans (HE.out.trans hE5)⟩
end Go.Proofs.YtnckdopphimgoaaGreat
