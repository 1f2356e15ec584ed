/- Eval, of the program. -/
import Derived.Shelf.SlSortCmp.WholeK
import Derived.Test.YtfojeajmonnifaaGreatDoorProg
import Derived.Test.YtfojeajmonnifaaGreatDoorZz16
import Derived.Test.YtfojeajmonnifaaGreatDoorZz20
namespace Go.Proofs.YtfojeajmonnifaaGreatDoor
open Go.ChangeShapes Go.WideShapes Go.ChangeAt Go.RowKit

set_option maxHeartbeats 8000000 in
set_option maxRecDepth 100000 in
theorem eval_yes (l : List X) (r : Nat) (row : List V) (vl vr : Value) (w : World) (hl : RdG w vl l) (hrow : RdG w vr row) (hr : r < l.length) (hs : l.length ≤ 1000) (hx : OkX l) (ho : OkR row) :
    Calls Tryz.prog 173 #[vl, .int .i64 r, vr] w fun e w' => e = .returned (vv ((evs row l).getD r nul)) ∧ Ext w w' := by
  have hi := isx_prg r l.length
  rw [(isIx_iff _ _).2 ⟨by omega, by omega⟩] at hi
  have hRe := fun w' h => rea_prg l r vl w' h hr hs
  obtain ⟨al, cl, rfl, ll1, ll2⟩ := hl.shape
  obtain ⟨ar, cr, rfl, lr1, lr2⟩ := hrow.shape
  have HL := Lib.hid hl
  have HR := Lib.hid hrow
  have HX := Lib.hid hx
  have HO := Lib.hid ho
  have HI := Lib.hid hi
  have HRe := Lib.hid hRe
  clear hl hrow hx ho hi hRe
  unfold maxLen at ll2 lr2
  obtain ⟨n, hn⟩ : ∃ n, n = l.length := ⟨_, rfl⟩
  obtain ⟨m, hm⟩ : ∃ m, m = row.length := ⟨_, rfl⟩
  have HN := Lib.hid hn
  have HM := Lib.hid hm
  rw [← hn] at HL HI HRe ll1 hr hs ⊢
  rw [← hm] at HR lr1 ⊢
  clear hn hm
  have e1 : (0 : Int) ≤ (r : Int) + 1 := by omega
  have e2 : (r : Int) + 1 ≤ (cl : Int) := by omega
  go_enter Tryz.func173, Tryz.ntmps173
  obtain ⟨k0, k1, k2⟩ := box3 w (.int .i64 0) (.int .i64 0) (sv []) 74
  have hE0 : Ext w (w.alloc (.cells #[.int .i64 0, .int .i64 0, sv []] 74)) := (Ext.refl _).alloc _ _
  go_wp2_with fail
  refine (HI.out _).mono ?_; rintro e w1 ⟨rfl, rfl⟩
  go_wp2_with fail
  refine (HRe.out _ (HL.out.ext hE0)).mono ?_; rintro e w1 ⟨rfl, hA⟩
  have hE1 := hE0.trans hA.2
  have g0 := hA.2.keeps k0
  have g1 := hA.2.keeps k1
  have g2 := hA.2.keeps k2
  have hb1 := hA.lo
  have hf0 : ∀ o, w1.frozen? ⟨w.heap.size, o, none⟩ = false := fun o => by rw [hA.2.2.1 ⟨w.heap.size, o, none⟩ (by simp), frozen?_alloc_cells]; exact frozen_new _ _ _ (Nat.le_refl _)
  have hbs : (w.alloc (.cells #[.int .i64 0, .int .i64 0, sv []] 74)).heap.size = w.heap.size + 1 := alsz _ _
  rw [hbs] at hb1 hA ⊢
  have HB := Lib.hid hA.rd
  rw [rea_len] at HB
  have hw1 : w.heap.size < w1.heap.size := by omega
  clear hA hbs k0 k1 k2 hE0
  have HE1 := Lib.hid hE1
  have HL1 := Lib.hid (HL.out.ext hE1)
  have HR1 := Lib.hid (HR.out.ext hE1)
  clear hE1
  go_wp2_with (at_make; refine makeG tV rfl _ _ rfl w1 (Ext.refl _) ((r : Int) + 1) ((r : Int) + 1) (r + 1) rfl rfl (by omega) (by omega) (by omega) ?_; intro w2 hA hE2)
  have hw2 : w1.heap.size < w2.heap.size := hA.lo.2
  go_loopw [28] (EvR w1 l row r) (fun i _ => r + 1 - (intOf i).toNat)
  case atStart => exact ⟨0, by omega, rfl, by rw [pvs_zero]; exact hA⟩
  case round =>
    clear hA hE2 hw2
    obtain ⟨k, hk, rfl, hAr⟩ := hrel
    have hrn : r < l.length := by rw [← HN.out]; exact hr
    by_cases hlt : k < r + 1
    · have hkl : k < l.length := by omega
      have hi1 : (k : Int) < (r : Int) + 1 := by omega
      have hi0 : (0 : Int) ≤ (k : Int) := by omega
      have hi2 : (k : Int) ≤ (r : Int) + 1 := by omega
      have hi3 : (k : Int) ≤ ((r + 1 : Nat) : Int) := by omega
      have hi4 : (k : Int) < ((r + 1 : Nat) : Int) := by omega
      obtain ⟨g, o, rfl, c0, c1, c2, c3, c4, c5, c6⟩ := rd_X HL1.out k hkl
      have hgl : g < w1.heap.size := World.block_lt_of_cell? _ _ c0
      obtain ⟨gb, ob, hgb, cb⟩ := rd_B HB.out k (by rw [rea_len]; exact hlt)
      injection hgb with hgb
      injection hgb with hgb1 hgb2
      subst hgb1 hgb2
      rw [← getD_at (rea l r) false k (by rw [rea_len]; exact hlt), Nat.zero_add] at cb
      have hxk := getD_at l nulX k hkl
      have hst := pvs_step row l r k hrn (by omega)
      have hsk := pvs_skip row l (rea l r) (r + 1) k
      rw [hxk] at hst
      have hOk : okN l[k].c.n := HX.out _ (List.getElem_mem _)
      have hpl : (pvs row l (rea l r) (r + 1) k).length = r + 1 := pvs_len _ _ _ _ _
      have hP := hAr.rd.take k (by rw [hpl]; exact hi3 |> (fun h => by omega))
      have hO := fun vp vr w' h1 h2 => evo_prg l[k] ((pvs row l (rea l r) (r + 1) k).take k) row vp vr w' h1 h2 (okR_take (pvs_ok row HO.out l HX.out (rea l r) (r + 1) k) k)
      have hN := pvs_here row l (rea l r) (r + 1) k hlt
      obtain ⟨z0, z1, z2⟩ := hAr.c3 k _ (by rw [hpl]; exact hlt) hN
      rw [hpl] at hP
      have HST := Lib.hid hst
      have HSK := Lib.hid hsk
      have HPL := Lib.hid hpl
      clear hst hsk hxk hOk hpl hN z0 z1 z2
      generalize hpr : evO l[k] ((pvs row l (rea l r) (r + 1) k).take k) row = pq at *
      obtain ⟨p, q, t⟩ := pq
      clear hpr
      generalize l[k] = x at *
      obtain ⟨xop, xa, xb, xc, ⟨xk, xn, xs⟩⟩ := x
      simp only at c0 c1 c2 c3 c4 c5 c6
      have C0 := hAr.2.keeps c0
      have C1 := hAr.2.keeps c1
      have C2 := hAr.2.keeps c2
      have C3 := hAr.2.keeps c3
      have C4 := hAr.2.keeps c4
      have C5 := hAr.2.keeps c5
      have C6 := hAr.2.keeps c6
      have CB := hAr.2.keeps cb
      have hrs : w1.heap.size < wr.heap.size := hAr.lo.2
      have hrs0 : w.heap.size < wr.heap.size := by omega
      have hrs1 : w.heap.size + 1 < wr.heap.size := by omega
      clear c0 c1 c2 c3 c4 c5 c6 cb
      have hE0 : Ext wr (wr.alloc (.cells #[.int .i64 xop, .int .i64 xa, .int .i64 xb, .int .i64 xc, .int .i64 xk, .int .i64 xn, sv xs] 80)) := (Ext.refl _).alloc _ _
      have hA0 := hAr.ext hE0
      cases hbv : (rea l r).getD k false with
      | false =>
        rw [hbv] at CB
        have H1 := Lib.hid (HSK.out hbv)
        have HA0 := Lib.hid hA0
        clear hbv hO hP hA0 hE0 hAr
        go_wp2_with fail
        go_roundw
        case rel => exact ⟨k + 1, by omega, by go_num, by rw [H1.out]; exact HA0.out⟩
        case measure => simp [intOf]; omega
      | true =>
        rw [hbv] at CB
        have H1 := Lib.hid (HST.out hbv)
        have hHO := Lib.hid hO
        clear hbv hO
        go_wp2_with fail
        have b0 := al_c wr #[.int .i64 xop, .int .i64 xa, .int .i64 xb, .int .i64 xc, .int .i64 xk, .int .i64 xn, sv xs] 80 0 (.int .i64 xop) rfl
        have b1 := al_c wr #[.int .i64 xop, .int .i64 xa, .int .i64 xb, .int .i64 xc, .int .i64 xk, .int .i64 xn, sv xs] 80 1 (.int .i64 xa) rfl
        have b2 := al_c wr #[.int .i64 xop, .int .i64 xa, .int .i64 xb, .int .i64 xc, .int .i64 xk, .int .i64 xn, sv xs] 80 2 (.int .i64 xb) rfl
        have b3 := al_c wr #[.int .i64 xop, .int .i64 xa, .int .i64 xb, .int .i64 xc, .int .i64 xk, .int .i64 xn, sv xs] 80 3 (.int .i64 xc) rfl
        have b4 := al_c wr #[.int .i64 xop, .int .i64 xa, .int .i64 xb, .int .i64 xc, .int .i64 xk, .int .i64 xn, sv xs] 80 4 (.int .i64 xk) rfl
        have b5 := al_c wr #[.int .i64 xop, .int .i64 xa, .int .i64 xb, .int .i64 xc, .int .i64 xk, .int .i64 xn, sv xs] 80 5 (.int .i64 xn) rfl
        have b6 := al_c wr #[.int .i64 xop, .int .i64 xa, .int .i64 xb, .int .i64 xc, .int .i64 xk, .int .i64 xn, sv xs] 80 6 (sv xs) rfl
        generalize wr.alloc (.cells #[.int .i64 xop, .int .i64 xa, .int .i64 xb, .int .i64 xc, .int .i64 xk, .int .i64 xn, sv xs] 80) = W0 at hE0 hA0 b0 b1 b2 b3 b4 b5 b6 ⊢
        have B0 := Lib.hid b0
        have B1 := Lib.hid b1
        have B2 := Lib.hid b2
        have B3 := Lib.hid b3
        have B4 := Lib.hid b4
        have B5 := Lib.hid b5
        have B6 := Lib.hid b6
        have n0 : w1.heap.size ≠ wr.heap.size := by omega
        have hP0 := hP.ext hE0
        have hR0 := HR1.out.ext hA0.2
        have hbl : wr.heap.size < W0.heap.size := World.block_lt_of_cell? _ _ b0
        have hHA := Lib.hid hA0
        have HP0 := Lib.hid hP0
        have HR0 := Lib.hid hR0
        clear hP hP0 hR0 hE0 b0 b1 b2 b3 b4 b5 b6 hA0 C0 C1 C2 C3 C4 C5 C6 CB hAr
        go_region_held3 (fun w' => w'.cell? ⟨wr.heap.size, 0, none⟩ = some (.int .i64 xop) ∧ w'.cell? ⟨wr.heap.size, 1, none⟩ = some (.int .i64 xa) ∧ w'.cell? ⟨wr.heap.size, 2, none⟩ = some (.int .i64 xb) ∧ w'.cell? ⟨wr.heap.size, 3, none⟩ = some (.int .i64 xc) ∧ w'.cell? ⟨wr.heap.size, 4, none⟩ = some (.int .i64 xk) ∧ w'.cell? ⟨wr.heap.size, 5, none⟩ = some (.int .i64 xn) ∧ w'.cell? ⟨wr.heap.size, 6, none⟩ = some (sv xs)) (first | exact ⟨B0.out, B1.out, B2.out, B3.out, B4.out, B5.out, B6.out⟩ | exact ⟨f0, f1, f2, f3, f4, f5, f6⟩ | exact ⟨set3far n0 f0, set3far n0 f1, set3far n0 f2, set3far n0 f3, set3far n0 f4, set3far n0 f5, set3far n0 f6⟩ | go_keep)
          (first | (go_at_call 188; refine (heldE W0 (hHO.out _ _ _ (HP0.out.ext ?_) (HR0.out.ext ?_)) ?_).mono ?_; (first | assumption | exact Ext.refl _ | exact (Ext.refl _).drew); (first | assumption | exact Ext.refl _ | exact (Ext.refl _).drew); (first | assumption | exact Ext.refl _ | exact (Ext.refl _).drew); rintro e w3 ⟨rfl, -, qG⟩; have f0 := qG.keeps B0.out; have f1 := qG.keeps B1.out; have f2 := qG.keeps B2.out; have f3 := qG.keeps B3.out; have f4 := qG.keeps B4.out; have f5 := qG.keeps B5.out; have f6 := qG.keeps B6.out; have hA3 := hHA.out.ext qG; obtain ⟨z0, z1, z2⟩ := hA3.c3 k nul (by rw [HPL.out]; exact hlt) (pvs_here row l (rea l r) (r + 1) k hlt); simp only [nul] at z0 z1 z2; have y0 := hA3.frozen (k * 3); have y1 := hA3.frozen (k * 3 + 1); have y2 := hA3.frozen (k * 3 + 2); have hs3 := hA3.lo.2))
        have hA4 := hA3.put3 k p q t (by rw [HPL.out]; exact hlt)
        rw [← H1.out] at hA4
        go_wp2_with fail
        go_roundw
        case rel => exact ⟨k + 1, by omega, by go_num, hA4⟩
        case measure => simp [intOf]; omega
    · have hke : k = r + 1 := by omega
      subst hke
      have hpl : (pvs row l (rea l r) (r + 1) (r + 1)).length = r + 1 := pvs_len _ _ _ _ _
      obtain ⟨c0, c1, c2⟩ := hAr.c3 r _ (by rw [hpl]; omega) (pvs_end row l r)
      generalize hpq : (evs row l).getD r nul = pq at *
      obtain ⟨p, q, t⟩ := pq
      have HQ := Lib.hid hpq
      clear hpq
      simp only at c0 c1 c2
      have d0 := hAr.2.keeps g0
      have d1 := hAr.2.keeps g1
      have d2 := hAr.2.keeps g2
      have df : ∀ o, wr.frozen? ⟨w.heap.size, o, none⟩ = false := fun o => by rw [hAr.2.2.1 ⟨w.heap.size, o, none⟩ hw1]; exact hf0 o
      have d3 := df 0
      have d4 := df 1
      have d5 := df 2
      have hrs0 : w.heap.size < wr.heap.size := by have := hAr.lo.2; omega
      have hE := HE1.out.trans hAr.2
      have hi0 : (0 : Int) ≤ (r : Int) := by omega
      have hi1 : (r : Int) < (r : Int) + 1 := by omega
      have hi4 : (r : Int) < ((r + 1 : Nat) : Int) := by omega
      have hend : decide (((r + 1 : Nat) : Int) < (r : Int) + 1) = false := by simp
      clear hpl df hf0 g0 g1 g2
      go_wp2_with fail
      exact bodyPost_ret (v := vv ⟨p, q, t⟩) (by simp [results, Tryz.results173, go_sem, d0, d1, d2, vv]) rfl ⟨by rw [HQ.out], by repeat (first | exact hE | refine Ext.setNew ?_ _ _ (by simp; try omega) _)⟩
theorem eval_prg (l : List X) (root : Int) (row : List V) (vl vr : Value) (w : World) (hl : RdG w vl l) (hrow : RdG w vr row) (hs : l.length ≤ 1000) (hx : OkX l) (ho : OkR row) :
    Calls Tryz.prog 173 #[vl, .int .i64 root, vr] w fun e w' => e = .returned (vv (evlV l root row)) ∧ Ext w w' := by
  cases hb : isIx root l.length with
  | false => exact eval_no l root row vl vr w hl hb
  | true =>
    have h := (isIx_iff _ _).1 hb
    obtain ⟨r, rfl⟩ := nat_of h.1
    have e : evlV l r row = (evs row l).getD r nul := by unfold evlV; rw [if_neg (by rw [hb]; decide)]; rfl
    rw [e]
    exact eval_yes l r row vl vr w hl hrow (by omega) hs hx ho
end Go.Proofs.YtfojeajmonnifaaGreatDoor
/- Evaluating a query, of the program: scans, predicates, selections, expressions. -/
namespace Go.Proofs.YtfojeajmonnifaaGreatDoor
open Go.ChangeShapes Go.WideShapes Go.ChangeAt Go.RowKit

/-- an evaluation's value -/
abbrev eaV (ve vd vc vr : Value) : Value := .agg #[ve, vd, vc, vr]
/-- rows that are handed back -/
def RoP (S : Nat → Prop) (w : World) (l : List R) (e : Ending) (w' : World) : Prop := ∃ v, e = .returned v ∧ RdR S w' v l ∧ Ext w w'
theorem RoP.trans {S : Nat → Prop} {w0 w w' : World} {l : List R} {e : Ending} (h : Ext w0 w) (k : RoP S w l e w') : RoP S w0 l e w' := by
  obtain ⟨v, h1, h2, h3⟩ := k
  exact ⟨v, h1, h2, h.trans h3⟩
theorem rdR_nil (S : Nat → Prop) (w : World) : RdR S w (.slice none 0 0) [] := ⟨[], rdG_nil _, In.nil S, fun p hp => (by cases hp), rfl⟩
theorem RdB9.shape {S : Nat → Prop} {w : World} {v : Value} {db : List Tb} (h : RdB9 S w v db) : ∃ ad cap, v = .slice ad db.length cap ∧ db.length ≤ cap ∧ cap ≤ maxLen := by
  obtain ⟨qs, h1, h2, rfl⟩ := h
  rw [List.length_map]; exact h1.shape
theorem rd_Tb {S : Nat → Prop} {w : World} {ad : Option Addr} {n cap : Nat} {db : List Tb} (h : RdB9 S w (.slice ad n cap) db) (i : Nat) (hi : i < db.length) :
    ∃ g o a k b m, ad = some ⟨g, o, none⟩ ∧ w.cell? ⟨g, o + i * 3, none⟩ = some (sv db[i].t.s) ∧ w.cell? ⟨g, o + i * 3 + 1, none⟩ = some (.slice a db[i].t.ks.length k) ∧ w.cell? ⟨g, o + i * 3 + 2, none⟩ = some (.slice b db[i].l.length m) ∧
      RdI S w (.slice a db[i].t.ks.length k) db[i].t.ks ∧ RdR S w (.slice b db[i].l.length m) db[i].l := by
  obtain ⟨qs, h1, h2, rfl⟩ := h
  have hi' : i < qs.length := by simpa using hi
  obtain ⟨g, o, e, c⟩ := h1.at i hi'
  obtain ⟨hr1, hr2⟩ := h2 qs[i] (List.getElem_mem _)
  obtain ⟨a, k, hx⟩ := rdI_ok.shape hr1
  obtain ⟨b, m, hy⟩ := rdR_ok.shape hr2
  have c0 := c 0 _ rfl
  have c1 := c 1 _ rfl
  have c2 := c 2 _ rfl
  simp only [List.getElem_map]
  rw [hx] at c1 hr1
  rw [hy] at c2 hr2
  exact ⟨g, o, a, k, b, m, e, c0, c1, c2, hr1, hr2⟩
def SlR (w : World) (c : List R) (db : List Tb) (s : List UInt8) (i : Value) (wr : World) : Prop := ∃ k : Nat, k ≤ db.length ∧ i = .int .i64 k ∧ Ext w wr ∧ c = scnL (db.drop k) s
set_option maxHeartbeats 4000000 in
set_option maxRecDepth 100000 in
theorem scan_prg (S : Nat → Prop) (db : List Tb) (s : List UInt8) (a1 a3 a4 : Option Addr) (n1 n3 n4 c1 c3 c4 : Nat) (vd : Value) (w : World) (h : RdB9 S w vd db) :
    Calls Tryz.prog 98 #[eaV (.slice a1 n1 c1) vd (.slice a3 n3 c3) (.slice a4 n4 c4), sv s] w (RoP S w (scnL db s)) := by
  obtain ⟨ad, cap, rfl, h1, h2⟩ := h.shape
  have H := Lib.hid h
  clear h
  obtain ⟨n, hn⟩ : ∃ n, n = db.length := ⟨_, rfl⟩
  have HN := Lib.hid hn
  rw [← hn] at h1 H ⊢
  clear hn
  obtain ⟨c, hc⟩ : ∃ c, c = scnL db s := ⟨_, rfl⟩
  have HC := Lib.hid hc
  rw [← hc]
  clear hc
  unfold maxLen at h2
  go_enter Tryz.func98, Tryz.ntmps98
  go_wp2_with fail
  go_loopw [10] (SlR w c db s) (fun i _ => n - (intOf i).toNat)
  case atStart => exact ⟨0, Nat.zero_le _, rfl, (Ext.refl _).alloc _ _, by rw [HC.out]; rfl⟩
  case round =>
    obtain ⟨k, hk, rfl, hE, hc⟩ := hrel
    have hkn : k ≤ n := by rw [HN.out]; exact hk
    by_cases hlt : k < n
    · have hlt' : k < db.length := by rw [← HN.out]; exact hlt
      rw [List.drop_eq_getElem_cons hlt'] at hc
      obtain ⟨g, o, a, q, b, m, rfl, d0', d1', d2', _, hr'⟩ := rd_Tb H.out k hlt'
      have d0 := hE.keeps d0'
      have d1 := hE.keeps d1'
      have d2 := hE.keeps d2'
      have HR := Lib.hid (rdR_ok.ext hr' hE)
      clear d0' d1' d2' hr'
      generalize db[k] = x at *
      obtain ⟨⟨xs, xk⟩, xl⟩ := x
      simp only at d0 d1 d2 hc HR
      obtain ⟨m1, hm1⟩ : ∃ m1, m1 = xk.length := ⟨_, rfl⟩
      obtain ⟨m2, hm2⟩ : ∃ m2, m2 = xl.length := ⟨_, rfl⟩
      rw [← hm1] at d1
      rw [← hm2] at d2 HR
      by_cases hz : xs = s
      · have hc2 : c = xl := by rw [hc]; exact if_pos hz
        have HC2 := Lib.hid hc2
        subst hz
        clear hc hc2 hm1 hm2
        go_wp2_with fail
        go_ret
        rw [HC2.out]
        exact ⟨_, rfl, rdR_ok.ext HR.out ((Ext.refl _).alloc _ _), hE.alloc _ _⟩
      · have hc2 : c = scnL (db.drop (k + 1)) s := by rw [hc]; exact if_neg hz
        have HC2 := Lib.hid hc2
        have hz1 : (xs == s) = false := by simpa using hz
        clear hc hc2 hm1 hm2
        go_wp2_with fail
        go_roundw
        case rel => exact ⟨k + 1, hlt', by go_num, hE.alloc _ _, HC2.out⟩
        case measure => simp [intOf]; omega
    · have HC2 := Lib.hid (show c = [] by rw [hc, List.drop_of_length_le (by have := HN.out; omega)]; rfl)
      clear hc
      go_wp2_with fail
      go_ret
      rw [HC2.out]
      exact ⟨_, rfl, rdR_nil S _, hE⟩
set_option maxHeartbeats 2000000 in
set_option maxRecDepth 100000 in
theorem holds_prg (es : List X) (p : Int) (row : List V) (a2 a3 a4 : Option Addr) (n2 n3 n4 c2 c3 c4 : Nat) (ve vr : Value) (w : World) (hl : RdG w ve es) (hr : RdG w vr row) (hs : es.length ≤ 1000) (hx : OkX es) (ho : OkR row) :
    Calls Tryz.prog 135 #[eaV ve (.slice a2 n2 c2) (.slice a3 n3 c3) (.slice a4 n4 c4), .int .i64 p, vr] w fun e w' => e = .returned (.bool (hldB es p row)) ∧ Ext w w' := by
  have HE := Lib.hid (fun w' (hE : Ext w w') => eval_prg es p row ve vr w' (hl.ext hE) (hr.ext hE) hs hx ho)
  obtain ⟨ad, cap, rfl, _, _⟩ := hl.shape
  obtain ⟨bd, bcap, rfl, _, _⟩ := hr.shape
  have hq : hldB es p row = decide ((evlV es p row).k = 3 ∧ (evlV es p row).n = 1) := rfl
  obtain ⟨q, hqe⟩ : ∃ q, q = hldB es p row := ⟨_, rfl⟩
  rw [← hqe] at hq ⊢
  generalize evlV es p row = z at HE hq
  obtain ⟨zk, zn, zs⟩ := z
  simp only at hq
  clear hl hr hs hx ho hqe
  obtain ⟨n, hn⟩ : ∃ n, n = es.length := ⟨_, rfl⟩
  obtain ⟨m, hm⟩ : ∃ m, m = row.length := ⟨_, rfl⟩
  rw [← hn, ← hm] at HE ⊢
  clear hn hm
  by_cases h1 : zk = 3
  · subst h1
    by_cases h2 : zn = 1
    · subst h2
      have HQ := Lib.hid (show q = true by rw [hq]; simp)
      clear hq
      go_enter Tryz.func135, Tryz.ntmps135
      go_wp2_with fail
      refine (HE.out _ ((Ext.refl _).alloc _ _)).mono ?_; rintro e w1 ⟨rfl, hE⟩
      go_wp2_with fail
      go_ret
      exact ⟨ret_bool HQ.out.symm, (((Ext.refl _).alloc _ _).trans hE).alloc _ _⟩
    · have HQ := Lib.hid (show q = false by rw [hq]; simp [h2])
      have h2' : (zn == 1) = false := by simpa using h2
      clear hq h2
      go_enter Tryz.func135, Tryz.ntmps135
      go_wp2_with fail
      refine (HE.out _ ((Ext.refl _).alloc _ _)).mono ?_; rintro e w1 ⟨rfl, hE⟩
      go_wp2_with fail
      go_ret
      exact ⟨ret_bool HQ.out.symm, (((Ext.refl _).alloc _ _).trans hE).alloc _ _⟩
  · have HQ := Lib.hid (show q = false by rw [hq]; simp [h1])
    have h1' : (zk == 3) = false := by simpa using h1
    clear hq h1
    go_enter Tryz.func135, Tryz.ntmps135
    go_wp2_with fail
    refine (HE.out _ ((Ext.refl _).alloc _ _)).mono ?_; rintro e w1 ⟨rfl, hE⟩
    go_wp2_with fail
    go_ret
    exact ⟨ret_bool HQ.out.symm, (((Ext.refl _).alloc _ _).trans hE).alloc _ _⟩
def EaR (W1 : World) (es : List X) (ex : List Int) (row : List V) (v i : Value) (wr : World) : Prop := ∃ k : Nat, k ≤ ex.length ∧ i = .int .i64 k ∧ OwnG tV.e W1 wr v (valL es (ex.take k) row)
theorem rd_litV1 (w : World) (k n : Int) (s : List UInt8) : RdG (w.alloc (.cells #[.int .i64 k, .int .i64 n, sv s] 74)) (.slice (some ⟨w.heap.size, 0, none⟩) 1 1) [(⟨k, n, s⟩ : V)] := rd_litG w [(⟨k, n, s⟩ : V)] _ _ _ 1 rfl rfl (by simp) rfl
set_option maxHeartbeats 4000000 in
set_option maxRecDepth 100000 in
theorem all_prg (es : List X) (ex : List Int) (row : List V) (a2 a3 a4 : Option Addr) (n2 n3 n4 c2 c3 c4 : Nat) (ve vx vr : Value) (w : World) (hl : RdG w ve es) (hxx : RdG w vx ex) (hr : RdG w vr row) (hs : es.length ≤ 1000) (hx : OkX es) (ho : OkR row) (he : ex.length ≤ 1000000) :
    Calls Tryz.prog 136 #[eaV ve (.slice a2 n2 c2) (.slice a3 n3 c3) (.slice a4 n4 c4), vx, vr] w fun e w' => ∃ v, e = .returned v ∧ OwnG tV.e w w' v (valL es ex row) := by
  have HE := Lib.hid (fun p w' (hE : Ext w w') => eval_prg es p row ve vr w' (hl.ext hE) (hr.ext hE) hs hx ho)
  obtain ⟨ad, cap, rfl, _, _⟩ := hl.shape
  obtain ⟨bd, bcap, rfl, _, _⟩ := hr.shape
  obtain ⟨xd, xcap, rfl, hx1, hx2⟩ := hxx.shape
  have HX := Lib.hid hxx
  have HS := Lib.hid he
  clear hl hr hs hx ho hxx he
  obtain ⟨n, hn⟩ : ∃ n, n = es.length := ⟨_, rfl⟩
  obtain ⟨m, hm⟩ : ∃ m, m = row.length := ⟨_, rfl⟩
  obtain ⟨t, ht⟩ : ∃ t, t = ex.length := ⟨_, rfl⟩
  have HT := Lib.hid ht
  rw [← hn, ← hm] at HE ⊢
  rw [← ht] at HX hx1 ⊢
  clear hn hm ht
  unfold maxLen at hx2
  obtain ⟨W1, hW⟩ : ∃ W1, W1 = w.alloc (.cells #[.slice ad n cap, .slice a2 n2 c2, .slice a3 n3 c3, .slice a4 n4 c4] 124) := ⟨_, rfl⟩
  have HW := Lib.hid (show Ext w W1 by rw [hW]; exact (Ext.refl _).alloc _ _)
  have hb0 : W1.cell? ⟨w.heap.size, 0, none⟩ = some (.slice ad n cap) := by rw [hW]; exact al_c w _ _ 0 _ rfl
  have HB := Lib.hid hb0
  have hW' := Lib.hid hW
  clear hb0 hW
  go_enter Tryz.func136, Tryz.ntmps136
  go_wp2_with fail
  go_loopw [7, 12] (EaR W1 es ex row) (fun _ i _ => t - (intOf i).toNat)
  case atStart => exact ⟨0, Nat.zero_le _, rfl, by rw [← hW'.out]; exact OwnG.nil _ _ _ (Ext.refl _)⟩
  case round =>
    obtain ⟨k, hk, rfl, hO⟩ := hrel
    have hkt : k ≤ t := by rw [HT.out]; exact hk
    have hb := hO.2.keeps HB.out
    by_cases hlt : k < t
    · have hlt' : k < ex.length := by rw [← HT.out]; exact hlt
      obtain ⟨g, o, rfl, d0'⟩ := rd_I HX.out k hlt'
      have d0 := hO.2.keeps (HW.out.keeps d0')
      clear d0'
      have hstep : valL es (ex.take (k + 1)) row = valL es (ex.take k) row ++ [evlV es ex[k] row] := by
        rw [List.take_succ_eq_append_getElem hlt']; exact List.map_append
      have HE1 := Lib.hid (fun w' (hE : Ext w w') => HE.out ex[k] w' hE)
      generalize hz : evlV es ex[k] row = z at HE1 hstep
      generalize ex[k] = x at *
      obtain ⟨zk, zn, zs⟩ := z
      have HST := Lib.hid hstep
      have HLN := Lib.hid (show (valL es (ex.take k) row).length ≤ 1000000 by unfold valL; rw [List.length_map, List.length_take]; have := HS.out; omega)
      have HL := Lib.hid hlt'
      clear hstep hz hlt'
      generalize valL es (ex.take k) row = pre at *
      go_wp2_with fail
      refine (HE1.out _ (HW.out.trans hO.2)).mono ?_; rintro e w2 ⟨rfl, hE⟩
      have hO2 := hO.ext hE
      go_wp2_with (at_builtin; refine appG tV rfl _ _ rfl W1 _ pre rfl (hO2.ext ((Ext.refl _).alloc _ _)) _ [⟨zk, zn, zs⟩] rfl (rd_litV1 w2 zk zn zs) (by have := HLN.out; simp; omega) ?_; intro v' w' hO' hg')
      go_roundw
      case rel => exact ⟨k + 1, HL.out, by go_num, by rw [HST.out]; exact hO'⟩
      case measure => simp [intOf]; omega
    · have hke : k = ex.length := by have := HT.out; omega
      rw [hke, List.take_length] at hO
      have HO := Lib.hid hO
      clear hke hO
      go_wp2_with fail
      go_ret
      exact ⟨_, rfl, HO.out.base HW.out⟩
end Go.Proofs.YtfojeajmonnifaaGreatDoor
/- Where the library's generic functions lie in this program. -/
namespace Go.Proofs
open Go.Shelf
def Tryz.sortW_ren : Go.Shelf.Ren := ⟨fun | 6 => 83 | 15 => 90 | 14 => 113 | 28 => 127 | 29 => 128 | 20 => 151 | 21 => 152 | 22 => 153 | 23 => 154 | 24 => 155 | 25 => 156 | 26 => 157 | 27 => 158 | 46 => 180 | 47 => 163 | 48 => 164 | 49 => 181 | 50 => 182 | 57 => 194 | n => n, fun | 22 => 40 | 24 => 67 | 25 => 141 | 3 => 3 | 39 => 147 | 0 => 0 | 53 => 178 | 55 => 180 | 4 => 4 | 46 => 170 | 45 => 169 | 50 => 175 | 5 => 5 | 9 => 9 | 66 => 211 | 70 => 215 | 76 => 229 | 77 => 150 | n => n, fun | n => n⟩
theorem Tryz.sortW : Go.Proofs.SlLaysF0.n6 Tryz.prog Tryz.sortW_ren := {
  mixed := by kernel_rfl
  f6 := ⟨Tryz.f83.name, by decide, Tryz.func83.trans (congrArg some (by kernel_rfl))⟩
  f14 := ⟨Tryz.f113.name, by decide, Tryz.func113.trans (congrArg some (by kernel_rfl))⟩
  f15 := Tryz.func90.trans (congrArg some (by kernel_rfl))
  f20 := ⟨Tryz.f151.name, by decide, Tryz.func151.trans (congrArg some (by kernel_rfl))⟩
  f21 := ⟨Tryz.f152.name, by decide, Tryz.func152.trans (congrArg some (by kernel_rfl))⟩
  f22 := ⟨Tryz.f153.name, by decide, Tryz.func153.trans (congrArg some (by kernel_rfl))⟩
  f23 := ⟨Tryz.f154.name, by decide, Tryz.func154.trans (congrArg some (by kernel_rfl))⟩
  f24 := ⟨Tryz.f155.name, by decide, Tryz.func155.trans (congrArg some (by kernel_rfl))⟩
  f25 := ⟨Tryz.f156.name, by decide, Tryz.func156.trans (congrArg some (by kernel_rfl))⟩
  f26 := ⟨Tryz.f157.name, by decide, Tryz.func157.trans (congrArg some (by kernel_rfl))⟩
  f27 := ⟨Tryz.f158.name, by decide, Tryz.func158.trans (congrArg some (by kernel_rfl))⟩
  f28 := Tryz.func127.trans (congrArg some (by kernel_rfl))
  f29 := Tryz.func128.trans (congrArg some (by kernel_rfl))
  f46 := ⟨Tryz.f180.name, by decide, Tryz.func180.trans (congrArg some (by kernel_rfl))⟩
  f47 := Tryz.func163.trans (congrArg some (by kernel_rfl))
  f48 := Tryz.func164.trans (congrArg some (by kernel_rfl))
  f49 := ⟨Tryz.f181.name, by decide, Tryz.func181.trans (congrArg some (by kernel_rfl))⟩
  f50 := ⟨Tryz.f182.name, by decide, Tryz.func182.trans (congrArg some (by kernel_rfl))⟩
  f57 := ⟨Tryz.f194.name, by decide, Tryz.func194.trans (congrArg some (by kernel_rfl))⟩
  t0 := Tryz.underlying0
  a0 := Tryz.isAgg0
  z0 := Tryz.sizeOf0
  v0 := Tryz.zeroValue0
  t3 := Tryz.underlying3
  a3 := Tryz.isAgg3
  z3 := Tryz.sizeOf3
  v3 := Tryz.zeroValue3
  t4 := Tryz.underlying4
  a4 := Tryz.isAgg4
  z4 := Tryz.sizeOf4
  v4 := Tryz.zeroValue4
  t5 := Tryz.underlying5
  a5 := Tryz.isAgg5
  z5 := Tryz.sizeOf5
  v5 := Tryz.zeroValue5
  t9 := Tryz.underlying9
  a9 := Tryz.isAgg9
  z9 := Tryz.sizeOf9
  v9 := Tryz.zeroValue9
  t22 := Tryz.underlying40
  a22 := Tryz.isAgg40
  z22 := Tryz.sizeOf40
  v22 := Tryz.zeroValue40
  t25 := Tryz.underlying141
  a25 := Tryz.isAgg141
  z25 := Tryz.sizeOf141
  v25 := Tryz.zeroValue141
  t39 := Tryz.underlying147
  a39 := Tryz.isAgg147
  z39 := Tryz.sizeOf147
  v39 := Tryz.zeroValue147
  t45 := Tryz.underlying169
  a45 := Tryz.isAgg169
  z45 := Tryz.sizeOf169
  v45 := Tryz.zeroValue169
  t46 := Tryz.underlying170
  a46 := Tryz.isAgg170
  z46 := Tryz.sizeOf170
  v46 := Tryz.zeroValue170
  t50 := Tryz.underlying175
  a50 := Tryz.isAgg175
  z50 := Tryz.sizeOf175
  v50 := Tryz.zeroValue175
  t53 := Tryz.underlying178
  a53 := Tryz.isAgg178
  z53 := Tryz.sizeOf178
  v53 := Tryz.zeroValue178
  t55 := Tryz.underlying180
  a55 := Tryz.isAgg180
  z55 := Tryz.sizeOf180
  v55 := Tryz.zeroValue180
  t66 := Tryz.underlying211
  a66 := Tryz.isAgg211
  z66 := Tryz.sizeOf211
  v66 := Tryz.zeroValue211
  t70 := Tryz.underlying215
  a70 := Tryz.isAgg215
  z70 := Tryz.sizeOf215
  v70 := Tryz.zeroValue215
  t76 := Tryz.underlying229
  a76 := Tryz.isAgg229
  z76 := Tryz.sizeOf229
  v76 := Tryz.zeroValue229
  t77 := Tryz.underlying150
  a77 := Tryz.isAgg150
  z77 := Tryz.sizeOf150
  v77 := Tryz.zeroValue150 }
end Go.Proofs
