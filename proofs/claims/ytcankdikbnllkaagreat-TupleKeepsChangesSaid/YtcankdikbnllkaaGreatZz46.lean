/- Slices of tuples «as» arguments. -/
import Derived.Test.YtcankdikbnllkaaGreatZz19
import Derived.Test.YtcankdikbnllkaaGreatZz37
import Derived.Test.YtcankdikbnllkaaGreatZz45
namespace Go.Proofs.YtcankdikbnllkaaGreat
open Go.ChangeShapes Go.WideShapes Go.ChangeAt Go.RowKit Go.Joins

theorem wf_16 {a : Int} (h : (Lit.int .u16 a).wf = true) : 0 ≤ a ∧ a ≤ 65535 := by
  have h1 : IntKind.u16.min = 0 := by decide
  have h2 : IntKind.u16.max = 65535 := by decide
  simp [Lit.wf] at h
  omega

section
variable {H : Type} {enc : TypeId × Value → H} {w : World} {base : Nat} {held : Bool}
set_option maxRecDepth 100000 in
theorem el10_per (fuel : Nat) (v1 v2 : Value) (y : DataW H × List MemPlace) (h : DataW.trod enc Tryz.prog w base (fun _ => true) held fuel 24 [v1, v2] = some y) : ∃ a b : Int, v1 = .int .i64 a ∧ v2 = .int .i64 b := by
  obtain ⟨xs, k, _, _, _, hxl, hff⟩ := DataW.trod_struct Tryz.underlying24 h
  have hxl2 : xs.length = 2 := hxl
  have g0 := hff 0 _ rfl
  have g1 := hff 1 _ rfl
  obtain ⟨y0, q0⟩ : ∃ y, xs[0]? = some y := ⟨_, List.getElem?_eq_getElem (by omega)⟩
  obtain ⟨y1, q1⟩ : ∃ y, xs[1]? = some y := ⟨_, List.getElem?_eq_getElem (by omega)⟩
  rw [q0] at g0
  rw [q1] at g1
  have k0 : Tryz.prog.cellsOf 3 = 1 := by kernel_rfl
  have h0' : DataW.trod enc Tryz.prog w base (fun _ => true) held k 3 (([v1, v2].drop 0).take (Tryz.prog.cellsOf 3)) = some y0 := g0
  rw [k0] at h0'
  have p0 : DataW.trod enc Tryz.prog w base (fun _ => true) held k 3 [v1] = some y0 := h0'
  have h1' : DataW.trod enc Tryz.prog w base (fun _ => true) held k 3 (([v1, v2].drop 1).take (Tryz.prog.cellsOf 3)) = some y1 := g1
  rw [k0] at h1'
  have p1 : DataW.trod enc Tryz.prog w base (fun _ => true) held k 3 [v2] = some y1 := h1'
  obtain ⟨z0, f0, _, _⟩ := DataW.trod_int Tryz.underlying3 p0
  obtain ⟨z1, f1, _, _⟩ := DataW.trod_int Tryz.underlying3 p1
  exact ⟨z0, z1, (List.cons.inj f0).1, (List.cons.inj f1).1⟩
set_option maxRecDepth 100000 in
theorem el10_T (fuel : Nat) (cs : List Value) (y : DataW H × List MemPlace) (hl : cs.length = 4) (h : DataW.trod enc Tryz.prog w base (fun _ => true) held fuel 32 cs = some y) : ∃ x : TP, cs = Enc.cells x ∧ RdT w x := by
  obtain ⟨xs, k, _, _, _, hxl, hff⟩ := DataW.trod_struct Tryz.underlying32 h
  have hxl3 : xs.length = 3 := hxl
  match cs, hl with
  | [v0, v1, v2, v3], _ =>
    have g0 := hff 0 _ rfl
    have g1 := hff 1 _ rfl
    have g2 := hff 2 _ rfl
    obtain ⟨y0, q0⟩ : ∃ y, xs[0]? = some y := ⟨_, List.getElem?_eq_getElem (by omega)⟩
    obtain ⟨y1, q1⟩ : ∃ y, xs[1]? = some y := ⟨_, List.getElem?_eq_getElem (by omega)⟩
    obtain ⟨y2, q2⟩ : ∃ y, xs[2]? = some y := ⟨_, List.getElem?_eq_getElem (by omega)⟩
    rw [q0] at g0
    rw [q1] at g1
    rw [q2] at g2
    have k0 : Tryz.prog.cellsOf 29 = 1 := by kernel_rfl
    have k1 : Tryz.prog.cellsOf 24 = 2 := by kernel_rfl
    have k2 : Tryz.prog.cellsOf 30 = 1 := by kernel_rfl
    have h0' : DataW.trod enc Tryz.prog w base (fun _ => true) held k 29 (([v0, v1, v2, v3].drop 0).take (Tryz.prog.cellsOf 29)) = some y0 := g0
    rw [k0] at h0'
    have p0 : DataW.trod enc Tryz.prog w base (fun _ => true) held k 29 [v0] = some y0 := h0'
    have h1' : DataW.trod enc Tryz.prog w base (fun _ => true) held k 24 (([v0, v1, v2, v3].drop 1).take (Tryz.prog.cellsOf 24)) = some y1 := g1
    rw [k1] at h1'
    have p1 : DataW.trod enc Tryz.prog w base (fun _ => true) held k 24 [v1, v2] = some y1 := h1'
    have h2' : DataW.trod enc Tryz.prog w base (fun _ => true) held k 30 (([v0, v1, v2, v3].drop 3).take (Tryz.prog.cellsOf 30)) = some y2 := g2
    rw [k2] at h2'
    have p2 : DataW.trod enc Tryz.prog w base (fun _ => true) held k 30 [v3] = some y2 := h2'
    obtain ⟨u0, l0, f0, r0, _⟩ := open_GT (fun _ : V => True) Tryz.underlying29 (by kernel_rfl) (fun f cs y hl => el8_V f cs y hl) p0
    obtain ⟨a, b, rfl, rfl⟩ := el10_per _ _ _ _ p1
    obtain ⟨u1, l1, f1, r1, _⟩ := open_GT (fun _ : Int => True) Tryz.underlying30 (by kernel_rfl) (fun f cs y _ => el8_I f cs y) p2
    obtain rfl := List.cons.inj f0 |>.1
    obtain rfl := List.cons.inj f1 |>.1
    obtain ⟨a0, c0, rfl, _, _⟩ := r0.shape
    obtain ⟨a1, c1, rfl, _, _⟩ := r1.shape
    exact ⟨⟨⟨a0, l0.length, c0, a1, l1.length, c1⟩, ⟨l0, l1⟩, a, b⟩, rfl, r0, r1⟩
set_option maxRecDepth 100000 in
theorem open_tuples {r : Reach} {b0 : Nat} {v : Value} {d : DataW H} {p : List MemPlace} (hv : Value.okWide Tryz.prog w r b0 22 v) (h : DataW.Trod enc Tryz.prog w base (fun _ => true) held 22 v d p) : ∃ l : List TP, RdG w v l ∧ RdTs w l :=
  open_G (RdT w) Tryz.underlying22 (by kernel_rfl) (fun f cs y hl => el10_T f cs y hl) hv h
end
end Go.Proofs.YtcankdikbnllkaaGreat
/- Valid tuples by the reference. -/
namespace Go.Proofs.YtcankdikbnllkaaGreat
open Go.ChangeShapes Go.WideShapes Go.ChangeAt Go.RowKit

theorem vldT_asc {x : Tu} (h : ascB x.r.t = false) : vldT x = false := by unfold vldT; rw [h]; simp
theorem vldT_end {x : Tu} (ha : ascB x.r.t = true) {k : Nat} (hk : x.r.v.length ≤ k) (h : ∀ y ∈ x.r.v.take k, vldB y = true) : vldT x = okD x.a x.b := by rw [all_end hk h, ha]; simp
set_option maxHeartbeats 4000000 in
set_option maxRecDepth 100000 in
theorem valid_ref (p : TP) (w : World) (h : RdT w p) : Calls Tryz.prog 15 #[tv p] w fun e w' => e = .returned (.bool (vldT p.tu)) ∧ Ext w w' := by
  obtain ⟨hv, ht⟩ := h
  have HNo := Lib.hid (fun k (hk : k < p.r.v.length) => vldT_val (x := p.tu) hk)
  have HAs := Lib.hid (vldT_asc (x := p.tu))
  have HEn := Lib.hid (fun (ha : ascB p.r.t = true) k (hk : p.r.v.length ≤ k) => vldT_end (x := p.tu) ha hk)
  obtain ⟨⟨xa, xn, xc, xb, xm, xd⟩, ⟨vs, ts⟩, pa, pb⟩ := p
  simp only [Hd.x, Hd.y, TP.tu] at hv ht HNo HEn HAs
  obtain ⟨ad, cap, e0, h1, h2⟩ := hv.shape
  simp only [Value.slice.injEq] at e0
  obtain ⟨rfl, hn, rfl⟩ := e0
  obtain ⟨ad2, cap2, e02, g1, g2⟩ := ht.shape
  simp only [Value.slice.injEq] at e02
  obtain ⟨rfl, hm, rfl⟩ := e02
  have HV := Lib.hid hv
  have HT := Lib.hid ht
  have HN := Lib.hid hn
  have HM := Lib.hid hm
  unfold maxLen at h2 g2
  rw [← hn] at h1
  rw [← hm] at g1
  clear hv ht hn hm
  simp only [tv, Hd.x, Hd.y, TP.tu]
  generalize vldT ⟨⟨vs, ts⟩, pa, pb⟩ = bb at *
  go_enter Tryz.func15, Tryz.ntmps15
  go_wp2_with fail
  obtain ⟨b0, b1, b2, b3⟩ := box4 w (.slice xa xn xc) (.int .i64 pa) (.int .i64 pb) (.slice xb xm xd) 32
  have hE0 : Ext w (w.alloc (.cells #[.slice xa xn xc, .int .i64 pa, .int .i64 pb, .slice xb xm xd] 32)) := (Ext.refl w).alloc _ _
  generalize w.alloc (.cells #[.slice xa xn xc, .int .i64 pa, .int .i64 pb, .slice xb xm xd] 32) = W at *
  have HE0 := Lib.hid hE0
  clear hE0
  go_loopw [3] (AsR ts W) (fun i _ => xm - (intOf i).toNat)
  case atStart => exact ⟨0, Nat.zero_le _, rfl, Lib.hid (asc_one ts), Ext.refl _⟩
  case round =>
    obtain ⟨j, hj, rfl, HK, hE⟩ := hrel
    have hjn : j ≤ xm := by rw [HM.out]; exact hj
    have d3 := hE.keeps b3
    by_cases hlt : j + 1 < xm
    · have hlt' : j + 1 < ts.length := by rw [← HM.out]; exact hlt
      obtain ⟨g, o, rfl, c0'⟩ := rd_I HT.out (j + 1) hlt'
      obtain ⟨g', o', e', d0'⟩ := rd_I HT.out j (by omega)
      simp only [Option.some.injEq, Addr.mk.injEq, and_true] at e'
      obtain ⟨rfl, rfl⟩ := e'
      have c0 := (HE0.out.trans hE).keeps c0'
      have d0 := (HE0.out.trans hE).keeps d0'
      clear c0' d0'
      have HNx := Lib.hid (asc_next hlt' HK.out)
      have HNo2 := Lib.hid (asc_no hlt')
      generalize ts[j + 1] = y at *
      generalize ts[j] = x at *
      have hj0 : (0 : Int) ≤ (j : Int) := by omega
      have hj1 : (j : Int) < (xm : Int) := by omega
      have hj2 : ((j : Int) + 1) < (xm : Int) := by omega
      by_cases hxy : x < y
      · have HX := Lib.hid (HNx.out hxy)
        clear HNx HNo2
        go_wp2_with fail
        go_quiet (fail)
        go_wp2_with fail
        go_roundw
        case rel => exact ⟨j + 1, by omega, by go_num, HX, hE⟩
        case measure => simp [intOf]; omega
      · have HX := Lib.hid (HAs.out (HNo2.out (by omega)))
        have hyx : y ≤ x := by omega
        clear HNx HNo2 hxy
        go_wp2_with fail
        go_quiet (fail)
        go_wp2_with fail
        try simp only [Exit.inBlock, Exit.then]
        go_ret
        exact ⟨ret_bool HX.out.symm, HE0.out.trans hE⟩
    · have hge : (xm : Int) ≤ (j : Int) + 1 := by omega
      have hdec : decide ((j : Int) + 1 < (xm : Int)) = false := by simp; omega
      have HAY := Lib.hid (HEn.out (asc_yes (by rw [← HM.out]; omega) HK.out))
      have d0 := hE.keeps b0
      have d1 := hE.keeps b1
      have d2 := hE.keeps b2
      have HEW := Lib.hid (HE0.out.trans hE)
      clear b0 b1 b2 b3 hE HE0 HK HEn HAs
      go_wp2_with fail
      obtain ⟨wA, hwA⟩ : ∃ x, x = wr := ⟨_, rfl⟩
      rw [← hwA] at d0 d1 d2 d3 HEW ⊢
      clear hwA
      rw [show ((j + 1 : Nat) : Int) = (j : Int) + 1 by omega]
      go_loopw [28] (VtR vs wA) (fun i _ => xn - (intOf i).toNat)
      case atStart => exact ⟨0, Nat.zero_le _, rfl, Lib.hid (fun x hx => by simp at hx), Ext.refl _⟩
      case round =>
        obtain ⟨k, hk, rfl, HT2, hE⟩ := hrel
        have hkn : k ≤ xn := by rw [HN.out]; exact hk
        by_cases hlt : k < xn
        · have hlt' : k < vs.length := by rw [← HN.out]; exact hlt
          obtain ⟨g, o, rfl, c0', c1', c2'⟩ := rd_V HV.out k hlt'
          have hEE := HEW.out.trans hE
          have c0 := hEE.keeps c0'
          have c1 := hEE.keeps c1'
          have c2 := hEE.keeps c2'
          clear c0' c1' c2'
          have HX1 := Lib.hid (HNo.out k hlt')
          have HX2 := Lib.hid (all_next hlt' HT2.out)
          have hi0 : (0 : Int) ≤ (k : Int) := by omega
          have hi1 : (k : Int) < (xn : Int) := by omega
          generalize vs[k] = x at *
          have hvl := vld_ref x
          obtain ⟨zk, zn, zs⟩ := x
          simp only [vv] at hvl
          cases hb : vldB ⟨zk, zn, zs⟩ with
          | true =>
            rw [hb] at hvl
            have HVL := Lib.hid hvl
            have HX := Lib.hid (HX2.out hb)
            clear hvl hb HX1 HX2
            go_wp2_with fail
            refine (HVL.out _).mono ?_; rintro e w1 ⟨rfl, hg⟩
            have hE1 := hE.trans (((Ext.refl wr).alloc _ _).trans (ext_of_grown hg))
            clear c0 c1 c2
            go_wp2_with fail
            go_roundw
            case rel => exact ⟨k + 1, hlt', by go_num, HX, hE1⟩
            case measure => simp [intOf]; omega
          | false =>
            rw [hb] at hvl
            have HVL := Lib.hid hvl
            have HX := Lib.hid (HX1.out hb)
            clear hvl hb HX1 HX2
            go_wp2_with fail
            refine (HVL.out _).mono ?_; rintro e w1 ⟨rfl, hg⟩
            have hE1 := hE.trans (((Ext.refl wr).alloc _ _).trans (ext_of_grown hg))
            clear c0 c1 c2
            go_wp2_with fail
            try simp only [Exit.inBlock, Exit.then]
            go_ret
            exact ⟨ret_bool HX.out.symm, HEW.out.trans hE1⟩
        · have hke : k = xn := by omega
          have HX := Lib.hid (HAY.out k (by rw [← HN.out, hke]; exact Nat.le_refl _) HT2.out)
          have f1 := hE.keeps d1
          have f2 := hE.keeps d2
          have hvd := vd_ref pa pb
          rw [← HX.out] at hvd
          have HD := Lib.hid hvd
          clear hvd
          go_wp2_with fail
          refine (HD.out _).mono ?_; rintro e w1 ⟨rfl, hg⟩
          go_wp2_with fail
          go_ret
          exact ⟨rfl, (HEW.out.trans hE).trans (ext_of_grown hg)⟩
end Go.Proofs.YtcankdikbnllkaaGreat
