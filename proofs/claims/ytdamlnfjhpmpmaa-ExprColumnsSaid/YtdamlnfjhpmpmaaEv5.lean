/- Eval, of the program. -/
import Derived.Test.YtdamlnfjhpmpmaaEv4
namespace Go.Proofs.Ytdamlnfjhpmpmaa
open Go.ChangeShapes Go.WideShapes Go.ChangeAt Go.RowKit

set_option maxHeartbeats 8000000 in
set_option maxRecDepth 100000 in
theorem eval_yes (l : List X) (r : Nat) (row : List V) (vl vr : Value) (w : World) (hl : RdG w vl l) (hrow : RdG w vr row) (hr : r < l.length) (hs : l.length ≤ 1000) (hx : OkX l) (ho : OkR row) :
    Calls Try.prog 15 #[vl, .int .i64 r, vr] w fun e w' => e = .returned (vv ((evs row l).getD r nul)) ∧ Ext w w' := by
  have hi := isx_prg r l.length
  rw [(isIx_iff _ _).2 ⟨by omega, by omega⟩] at hi
  have hRe := fun w' h => rea_prg l r vl w' h hr hs
  obtain ⟨al, cl, rfl, ll1, ll2⟩ := hl.shape
  obtain ⟨ar, cr, rfl, lr1, lr2⟩ := hrow.shape
  have HL := Lib.hid hl
  have HR := Lib.hid hrow
  have HX := Lib.hid hx
  have HO := Lib.hid ho
  have HI := Lib.hid hi
  have HRe := Lib.hid hRe
  clear hl hrow hx ho hi hRe
  unfold maxLen at ll2 lr2
  obtain ⟨n, hn⟩ : ∃ n, n = l.length := ⟨_, rfl⟩
  obtain ⟨m, hm⟩ : ∃ m, m = row.length := ⟨_, rfl⟩
  have HN := Lib.hid hn
  have HM := Lib.hid hm
  rw [← hn] at HL HI HRe ll1 hr hs ⊢
  rw [← hm] at HR lr1 ⊢
  clear hn hm
  have e1 : (0 : Int) ≤ (r : Int) + 1 := by omega
  have e2 : (r : Int) + 1 ≤ (cl : Int) := by omega
  go_enter Try.func15, Try.ntmps15
  obtain ⟨k0, k1, k2⟩ := box3 w (.int .i64 0) (.int .i64 0) (sv []) 34
  have hE0 : Ext w (w.alloc (.cells #[.int .i64 0, .int .i64 0, sv []] 34)) := (Ext.refl _).alloc _ _
  go_wp2_with fail
  refine (HI.out _).mono ?_; rintro e w1 ⟨rfl, rfl⟩
  go_wp2_with fail
  refine (HRe.out _ (HL.out.ext hE0)).mono ?_; rintro e w1 ⟨rfl, hA⟩
  have hE1 := hE0.trans hA.2
  have g0 := hA.2.keeps k0
  have g1 := hA.2.keeps k1
  have g2 := hA.2.keeps k2
  have hb1 := hA.lo
  have hf0 : ∀ o, w1.frozen? ⟨w.heap.size, o, none⟩ = false := fun o => by rw [hA.2.2.1 ⟨w.heap.size, o, none⟩ (by simp), frozen?_alloc_cells]; exact frozen_new _ _ _ (Nat.le_refl _)
  have hbs : (w.alloc (.cells #[.int .i64 0, .int .i64 0, sv []] 34)).heap.size = w.heap.size + 1 := alsz _ _
  rw [hbs] at hb1 hA ⊢
  have HB := Lib.hid hA.rd
  rw [rea_len] at HB
  have hw1 : w.heap.size < w1.heap.size := by omega
  clear hA hbs k0 k1 k2 hE0
  have HE1 := Lib.hid hE1
  have HL1 := Lib.hid (HL.out.ext hE1)
  have HR1 := Lib.hid (HR.out.ext hE1)
  clear hE1
  go_wp2_with (at_make; refine makeG tV rfl _ _ rfl w1 (Ext.refl _) ((r : Int) + 1) ((r : Int) + 1) (r + 1) rfl rfl (by omega) (by omega) (by omega) ?_; intro w2 hA hE2)
  have hw2 : w1.heap.size < w2.heap.size := hA.lo.2
  go_loopw [28] (EvR w1 l row r) (fun i _ => r + 1 - (intOf i).toNat)
  case atStart => exact ⟨0, by omega, rfl, by rw [pvs_zero]; exact hA⟩
  case round =>
    clear hA hE2 hw2
    obtain ⟨k, hk, rfl, hAr⟩ := hrel
    have hrn : r < l.length := by rw [← HN.out]; exact hr
    by_cases hlt : k < r + 1
    · have hkl : k < l.length := by omega
      have hi1 : (k : Int) < (r : Int) + 1 := by omega
      have hi0 : (0 : Int) ≤ (k : Int) := by omega
      have hi2 : (k : Int) ≤ (r : Int) + 1 := by omega
      have hi3 : (k : Int) ≤ ((r + 1 : Nat) : Int) := by omega
      have hi4 : (k : Int) < ((r + 1 : Nat) : Int) := by omega
      obtain ⟨g, o, rfl, c0, c1, c2, c3, c4, c5, c6⟩ := rd_X HL1.out k hkl
      have hgl : g < w1.heap.size := World.block_lt_of_cell? _ _ c0
      obtain ⟨gb, ob, hgb, cb⟩ := rd_B HB.out k (by rw [rea_len]; exact hlt)
      injection hgb with hgb
      injection hgb with hgb1 hgb2
      subst hgb1 hgb2
      rw [← getD_at (rea l r) false k (by rw [rea_len]; exact hlt), Nat.zero_add] at cb
      have hxk := getD_at l nulX k hkl
      have hst := pvs_step row l r k hrn (by omega)
      have hsk := pvs_skip row l (rea l r) (r + 1) k
      rw [hxk] at hst
      have hOk : okN l[k].c.n := HX.out _ (List.getElem_mem _)
      have hpl : (pvs row l (rea l r) (r + 1) k).length = r + 1 := pvs_len _ _ _ _ _
      have hP := hAr.rd.take k (by rw [hpl]; exact hi3 |> (fun h => by omega))
      have hO := fun vp vr w' h1 h2 => evo_prg l[k] ((pvs row l (rea l r) (r + 1) k).take k) row vp vr w' h1 h2 (okR_take (pvs_ok row HO.out l HX.out (rea l r) (r + 1) k) k)
      have hN := pvs_here row l (rea l r) (r + 1) k hlt
      obtain ⟨z0, z1, z2⟩ := hAr.c3 k _ (by rw [hpl]; exact hlt) hN
      rw [hpl] at hP
      have HST := Lib.hid hst
      have HSK := Lib.hid hsk
      have HPL := Lib.hid hpl
      clear hst hsk hxk hOk hpl hN z0 z1 z2
      generalize hpr : evO l[k] ((pvs row l (rea l r) (r + 1) k).take k) row = pq at *
      obtain ⟨p, q, t⟩ := pq
      clear hpr
      generalize l[k] = x at *
      obtain ⟨xop, xa, xb, xc, ⟨xk, xn, xs⟩⟩ := x
      simp only at c0 c1 c2 c3 c4 c5 c6
      have C0 := hAr.2.keeps c0
      have C1 := hAr.2.keeps c1
      have C2 := hAr.2.keeps c2
      have C3 := hAr.2.keeps c3
      have C4 := hAr.2.keeps c4
      have C5 := hAr.2.keeps c5
      have C6 := hAr.2.keeps c6
      have CB := hAr.2.keeps cb
      have hrs : w1.heap.size < wr.heap.size := hAr.lo.2
      have hrs0 : w.heap.size < wr.heap.size := by omega
      have hrs1 : w.heap.size + 1 < wr.heap.size := by omega
      clear c0 c1 c2 c3 c4 c5 c6 cb
      have hE0 : Ext wr (wr.alloc (.cells #[.int .i64 xop, .int .i64 xa, .int .i64 xb, .int .i64 xc, .int .i64 xk, .int .i64 xn, sv xs] 44)) := (Ext.refl _).alloc _ _
      have hA0 := hAr.ext hE0
      cases hbv : (rea l r).getD k false with
      | false =>
        rw [hbv] at CB
        have H1 := Lib.hid (HSK.out hbv)
        have HA0 := Lib.hid hA0
        clear hbv hO hP hA0 hE0 hAr
        go_wp2_with fail
        go_roundw
        case rel => exact ⟨k + 1, by omega, by go_num, by rw [H1.out]; exact HA0.out⟩
        case measure => simp [intOf]; omega
      | true =>
        rw [hbv] at CB
        have H1 := Lib.hid (HST.out hbv)
        have hHO := Lib.hid hO
        clear hbv hO
        go_wp2_with fail
        have b0 := al_c wr #[.int .i64 xop, .int .i64 xa, .int .i64 xb, .int .i64 xc, .int .i64 xk, .int .i64 xn, sv xs] 44 0 (.int .i64 xop) rfl
        have b1 := al_c wr #[.int .i64 xop, .int .i64 xa, .int .i64 xb, .int .i64 xc, .int .i64 xk, .int .i64 xn, sv xs] 44 1 (.int .i64 xa) rfl
        have b2 := al_c wr #[.int .i64 xop, .int .i64 xa, .int .i64 xb, .int .i64 xc, .int .i64 xk, .int .i64 xn, sv xs] 44 2 (.int .i64 xb) rfl
        have b3 := al_c wr #[.int .i64 xop, .int .i64 xa, .int .i64 xb, .int .i64 xc, .int .i64 xk, .int .i64 xn, sv xs] 44 3 (.int .i64 xc) rfl
        have b4 := al_c wr #[.int .i64 xop, .int .i64 xa, .int .i64 xb, .int .i64 xc, .int .i64 xk, .int .i64 xn, sv xs] 44 4 (.int .i64 xk) rfl
        have b5 := al_c wr #[.int .i64 xop, .int .i64 xa, .int .i64 xb, .int .i64 xc, .int .i64 xk, .int .i64 xn, sv xs] 44 5 (.int .i64 xn) rfl
        have b6 := al_c wr #[.int .i64 xop, .int .i64 xa, .int .i64 xb, .int .i64 xc, .int .i64 xk, .int .i64 xn, sv xs] 44 6 (sv xs) rfl
        generalize wr.alloc (.cells #[.int .i64 xop, .int .i64 xa, .int .i64 xb, .int .i64 xc, .int .i64 xk, .int .i64 xn, sv xs] 44) = W0 at hE0 hA0 b0 b1 b2 b3 b4 b5 b6 ⊢
        have B0 := Lib.hid b0
        have B1 := Lib.hid b1
        have B2 := Lib.hid b2
        have B3 := Lib.hid b3
        have B4 := Lib.hid b4
        have B5 := Lib.hid b5
        have B6 := Lib.hid b6
        have n0 : w1.heap.size ≠ wr.heap.size := by omega
        have hP0 := hP.ext hE0
        have hR0 := HR1.out.ext hA0.2
        have hbl : wr.heap.size < W0.heap.size := World.block_lt_of_cell? _ _ b0
        have hHA := Lib.hid hA0
        have HP0 := Lib.hid hP0
        have HR0 := Lib.hid hR0
        clear hP hP0 hR0 hE0 b0 b1 b2 b3 b4 b5 b6 hA0 C0 C1 C2 C3 C4 C5 C6 CB hAr
        go_region_held3 (fun w' => w'.cell? ⟨wr.heap.size, 0, none⟩ = some (.int .i64 xop) ∧ w'.cell? ⟨wr.heap.size, 1, none⟩ = some (.int .i64 xa) ∧ w'.cell? ⟨wr.heap.size, 2, none⟩ = some (.int .i64 xb) ∧ w'.cell? ⟨wr.heap.size, 3, none⟩ = some (.int .i64 xc) ∧ w'.cell? ⟨wr.heap.size, 4, none⟩ = some (.int .i64 xk) ∧ w'.cell? ⟨wr.heap.size, 5, none⟩ = some (.int .i64 xn) ∧ w'.cell? ⟨wr.heap.size, 6, none⟩ = some (sv xs)) (first | exact ⟨B0.out, B1.out, B2.out, B3.out, B4.out, B5.out, B6.out⟩ | exact ⟨f0, f1, f2, f3, f4, f5, f6⟩ | exact ⟨set3far n0 f0, set3far n0 f1, set3far n0 f2, set3far n0 f3, set3far n0 f4, set3far n0 f5, set3far n0 f6⟩ | go_keep)
          (first | (go_at_call 25; refine (heldE W0 (hHO.out _ _ _ (HP0.out.ext ?_) (HR0.out.ext ?_)) ?_).mono ?_; (first | assumption | exact Ext.refl _ | exact (Ext.refl _).drew); (first | assumption | exact Ext.refl _ | exact (Ext.refl _).drew); (first | assumption | exact Ext.refl _ | exact (Ext.refl _).drew); rintro e w3 ⟨rfl, -, qG⟩; have f0 := qG.keeps B0.out; have f1 := qG.keeps B1.out; have f2 := qG.keeps B2.out; have f3 := qG.keeps B3.out; have f4 := qG.keeps B4.out; have f5 := qG.keeps B5.out; have f6 := qG.keeps B6.out; have hA3 := hHA.out.ext qG; obtain ⟨z0, z1, z2⟩ := hA3.c3 k nul (by rw [HPL.out]; exact hlt) (pvs_here row l (rea l r) (r + 1) k hlt); simp only [nul] at z0 z1 z2; have y0 := hA3.frozen (k * 3); have y1 := hA3.frozen (k * 3 + 1); have y2 := hA3.frozen (k * 3 + 2); have hs3 := hA3.lo.2))
        have hA4 := hA3.put3 k p q t (by rw [HPL.out]; exact hlt)
        rw [← H1.out] at hA4
        go_wp2_with fail
        go_roundw
        case rel => exact ⟨k + 1, by omega, by go_num, hA4⟩
        case measure => simp [intOf]; omega
    · have hke : k = r + 1 := by omega
      subst hke
      have hpl : (pvs row l (rea l r) (r + 1) (r + 1)).length = r + 1 := pvs_len _ _ _ _ _
      obtain ⟨c0, c1, c2⟩ := hAr.c3 r _ (by rw [hpl]; omega) (pvs_end row l r)
      generalize hpq : (evs row l).getD r nul = pq at *
      obtain ⟨p, q, t⟩ := pq
      have HQ := Lib.hid hpq
      clear hpq
      simp only at c0 c1 c2
      have d0 := hAr.2.keeps g0
      have d1 := hAr.2.keeps g1
      have d2 := hAr.2.keeps g2
      have df : ∀ o, wr.frozen? ⟨w.heap.size, o, none⟩ = false := fun o => by rw [hAr.2.2.1 ⟨w.heap.size, o, none⟩ hw1]; exact hf0 o
      have d3 := df 0
      have d4 := df 1
      have d5 := df 2
      have hrs0 : w.heap.size < wr.heap.size := by have := hAr.lo.2; omega
      have hE := HE1.out.trans hAr.2
      have hi0 : (0 : Int) ≤ (r : Int) := by omega
      have hi1 : (r : Int) < (r : Int) + 1 := by omega
      have hi4 : (r : Int) < ((r + 1 : Nat) : Int) := by omega
      have hend : decide (((r + 1 : Nat) : Int) < (r : Int) + 1) = false := by simp
      clear hpl df hf0 g0 g1 g2
      go_wp2_with fail
      exact bodyPost_ret (v := vv ⟨p, q, t⟩) (by simp [results, Try.results15, go_sem, d0, d1, d2, vv]) rfl ⟨by rw [HQ.out], by repeat (first | exact hE | refine Ext.setNew ?_ _ _ (by simp; try omega) _)⟩
theorem eval_prg (l : List X) (root : Int) (row : List V) (vl vr : Value) (w : World) (hl : RdG w vl l) (hrow : RdG w vr row) (hs : l.length ≤ 1000) (hx : OkX l) (ho : OkR row) :
    Calls Try.prog 15 #[vl, .int .i64 root, vr] w fun e w' => e = .returned (vv (evlV l root row)) ∧ Ext w w' := by
  cases hb : isIx root l.length with
  | false => exact eval_no l root row vl vr w hl hb
  | true =>
    have h := (isIx_iff _ _).1 hb
    obtain ⟨r, rfl⟩ := nat_of h.1
    have e : evlV l r row = (evs row l).getD r nul := by unfold evlV; rw [if_neg (by rw [hb]; decide)]; rfl
    rw [e]
    exact eval_yes l r row vl vr w hl hrow (by omega) hs hx ho
end Go.Proofs.Ytdamlnfjhpmpmaa
