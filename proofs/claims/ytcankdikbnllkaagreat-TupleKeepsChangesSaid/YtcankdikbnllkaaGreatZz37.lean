/- Valid tuples, by the program and by the reference. -/
import Derived.Test.YtcankdikbnllkaaGreatZz04
import Derived.Test.YtcankdikbnllkaaGreatZz09
import Derived.Test.YtcankdikbnllkaaGreatZz10
import Derived.Test.YtcankdikbnllkaaGreatZz18
import Derived.Test.YtcankdikbnllkaaGreatZz36
namespace Go.Proofs.YtcankdikbnllkaaGreat
open Go.ChangeShapes Go.WideShapes Go.ChangeAt Go.RowKit

def vldT (x : Tu) : Bool := x.r.v.all vldB && okD x.a x.b && ascB x.r.t
theorem vldT_val {x : Tu} {k : Nat} (hk : k < x.r.v.length) (h : vldB x.r.v[k] = false) : vldT x = false := by
  have : x.r.v.all vldB = false := by
    rw [Bool.eq_false_iff]; intro ha
    have := List.all_eq_true.1 ha _ (List.getElem_mem hk)
    rw [h] at this; cases this
  unfold vldT; rw [this]; rfl
theorem all_next {l : List V} {k : Nat} (hk : k < l.length) (h : ∀ x ∈ l.take k, vldB x = true) (hv : vldB l[k] = true) : ∀ x ∈ l.take (k + 1), vldB x = true := by
  rw [List.take_succ_eq_append_getElem hk]
  intro x hx
  rcases List.mem_append.1 hx with hx | hx
  · exact h x hx
  · rw [List.mem_singleton.1 hx]; exact hv
theorem all_end {x : Tu} {k : Nat} (hk : x.r.v.length ≤ k) (h : ∀ y ∈ x.r.v.take k, vldB y = true) : vldT x = (okD x.a x.b && ascB x.r.t) := by
  rw [List.take_of_length_le hk] at h
  have : x.r.v.all vldB = true := List.all_eq_true.2 h
  unfold vldT; rw [this]; simp
def VtR (l : List V) (W : World) (i : Value) (wr : World) : Prop := ∃ k : Nat, k ≤ l.length ∧ i = .int .i64 k ∧ Hid (∀ x ∈ l.take k, vldB x = true) ∧ Ext W wr
set_option maxHeartbeats 4000000 in
set_option maxRecDepth 100000 in
theorem valid_prg (p : TP) (w : World) (h : RdT w p) : Calls Tryz.prog 14 #[tv p] w fun e w' => e = .returned (.bool (vldT p.tu)) ∧ Ext w w' := by
  obtain ⟨hv, ht⟩ := h
  have hasc := fun w2 (e : Ext w w2) => asc_prg p.r.t p.h.y w2 (ht.ext e)
  have HNo := Lib.hid (fun k (hk : k < p.r.v.length) => vldT_val (x := p.tu) hk)
  have HEn := Lib.hid (fun k (hk : p.r.v.length ≤ k) => all_end (x := p.tu) hk)
  obtain ⟨⟨xa, xn, xc, xb, xm, xd⟩, ⟨vs, ts⟩, pa, pb⟩ := p
  simp only [Hd.x, Hd.y, TP.tu] at hv ht hasc HNo HEn
  obtain ⟨ad, cap, e0, h1, h2⟩ := hv.shape
  simp only [Value.slice.injEq] at e0
  obtain ⟨rfl, hn, rfl⟩ := e0
  have HV := Lib.hid hv
  have HA := Lib.hid hasc
  have HN := Lib.hid hn
  unfold maxLen at h2
  clear hv hasc ht hn
  simp only [tv, Hd.x, Hd.y, TP.tu]
  generalize vldT ⟨⟨vs, ts⟩, pa, pb⟩ = bb at *
  generalize ascB ts = ab at *
  go_enter Tryz.func14, Tryz.ntmps14
  go_wp2_with fail
  obtain ⟨b0, b1, b2, b3⟩ := box4 w (.slice xa xn xc) (.int .i64 pa) (.int .i64 pb) (.slice xb xm xd) 32
  have hE0 : Ext w (w.alloc (.cells #[.slice xa xn xc, .int .i64 pa, .int .i64 pb, .slice xb xm xd] 32)) := (Ext.refl w).alloc _ _
  generalize w.alloc (.cells #[.slice xa xn xc, .int .i64 pa, .int .i64 pb, .slice xb xm xd] 32) = W at *
  have HE0 := Lib.hid hE0
  clear hE0
  go_wp2_with fail
  go_loopw [8] (VtR vs W) (fun i _ => xn - (intOf i).toNat)
  case atStart => exact ⟨0, Nat.zero_le _, rfl, Lib.hid (fun x hx => by simp at hx), Ext.refl _⟩
  case round =>
    obtain ⟨k, hk, rfl, HT, hE⟩ := hrel
    have hkn : k ≤ xn := by rw [HN.out]; exact hk
    by_cases hlt : k < xn
    · have hlt' : k < vs.length := by rw [← HN.out]; exact hlt
      obtain ⟨g, o, rfl, c0', c1', c2'⟩ := rd_V HV.out k hlt'
      have hEE := HE0.out.trans hE
      have c0 := hEE.keeps c0'
      have c1 := hEE.keeps c1'
      have c2 := hEE.keeps c2'
      clear c0' c1' c2'
      have HX1 := Lib.hid (HNo.out k hlt')
      have HX2 := Lib.hid (all_next hlt' HT.out)
      have hi0 : (0 : Int) ≤ (k : Int) := by omega
      have hi1 : (k : Int) < (xn : Int) := by omega
      generalize vs[k] = x at *
      have hvl := vld_val x
      obtain ⟨zk, zn, zs⟩ := x
      simp only [vv] at hvl
      cases hb : vldB ⟨zk, zn, zs⟩ with
      | true =>
        rw [hb] at hvl
        have HVL := Lib.hid hvl
        have HX := Lib.hid (HX2.out hb)
        clear hvl hb HX1 HX2
        go_wp2_with fail
        refine (HVL.out _).mono ?_; rintro e w1 ⟨rfl, hg⟩
        have hE1 := hE.trans (((Ext.refl wr).alloc _ _).trans (ext_of_grown hg))
        clear c0 c1 c2
        go_wp2_with fail
        go_roundw
        case rel => exact ⟨k + 1, hlt', by go_num, HX, hE1⟩
        case measure => simp [intOf]; omega
      | false =>
        rw [hb] at hvl
        have HVL := Lib.hid hvl
        have HX := Lib.hid (HX1.out hb)
        clear hvl hb HX1 HX2
        go_wp2_with fail
        refine (HVL.out _).mono ?_; rintro e w1 ⟨rfl, hg⟩
        have hE1 := hE.trans (((Ext.refl wr).alloc _ _).trans (ext_of_grown hg))
        clear c0 c1 c2
        go_wp2_with fail
        try simp only [Exit.inBlock, Exit.then]
        go_ret
        exact ⟨ret_bool HX.out.symm, HE0.out.trans hE1⟩
    · have hke : k = xn := by omega
      have HX := Lib.hid (HEn.out k (by rw [← HN.out, hke]; exact Nat.le_refl _) HT.out)
      have d1 := hE.keeps b1
      have d2 := hE.keeps b2
      have d3 := hE.keeps b3
      have hvd := vd_per pa pb
      cases hb : okD pa pb with
      | true =>
        rw [hb] at hvd
        have HD := Lib.hid hvd
        have HY := Lib.hid (show bb = ab by rw [HX.out, hb]; simp)
        clear hvd hb
        go_wp2_with fail
        refine (HD.out _).mono ?_; rintro e w1 ⟨rfl, hg⟩
        have hE1 := ext_of_grown hg
        have f3 := hE1.keeps d3
        clear d1 d2 d3
        go_wp2_with fail
        refine (HA.out _ ((HE0.out.trans hE).trans hE1)).mono ?_; rintro e w2 ⟨rfl, hE2⟩
        go_wp2_with fail
        go_ret
        exact ⟨ret_bool HY.out.symm, ((HE0.out.trans hE).trans hE1).trans hE2⟩
      | false =>
        rw [hb] at hvd
        have HD := Lib.hid hvd
        have HY := Lib.hid (show bb = false by rw [HX.out, hb]; simp)
        clear hvd hb
        go_wp2_with fail
        refine (HD.out _).mono ?_; rintro e w1 ⟨rfl, hg⟩
        have hE1 := ext_of_grown hg
        clear d1 d2 d3
        go_wp2_with fail
        go_ret
        exact ⟨ret_bool HY.out.symm, (HE0.out.trans hE).trans hE1⟩
end Go.Proofs.YtcankdikbnllkaaGreat
/- The laws' IntValue. -/
namespace Go.Proofs.YtcankdikbnllkaaGreat
open Go.ChangeShapes Go.WideShapes Go.ChangeAt Go.RowKit

set_option maxHeartbeats 1000000 in
theorem int_val (z : Int) (w : World) : Calls Tryz.prog 71 #[.int .i64 z] w fun e w' => e = .returned (vv ⟨1, z, []⟩) ∧ Ext w w' := by
  go_enter Tryz.func71, Tryz.ntmps71
  go_wp2_with fail
  exact bodyPost_ret (v := vv ⟨1, z, []⟩) (by simp [results, Tryz.results71, go_sem, vv]) rfl ⟨rfl, by repeat (first | exact Ext.refl _ | refine Ext.alloc ?_ _ _ | refine Ext.setNew ?_ _ _ (by simp; try omega) _)⟩
end Go.Proofs.YtcankdikbnllkaaGreat
/- The laws' builders of values, periods and rows of two values. -/
namespace Go.Proofs.YtcankdikbnllkaaGreat
open Go.ChangeShapes Go.WideShapes Go.ChangeAt Go.RowKit

/-- some value -/
def SmV (v : V) : Prop := (0 ≤ v.k ∧ v.k ≤ 2) ∧ (-1 ≤ v.n ∧ v.n ≤ 1) ∧ v.s.length ≤ 2
def BvP (w : World) (e : Ending) (w' : World) : Prop := ∃ v, e = .returned (vv v) ∧ SmV v ∧ Ext w w'
theorem wrapU (m : Int) (h0 : 0 ≤ m) (h1 : m ≤ 65535) : IntKind.u16.wrap m = m := by simp only [IntKind.wrap, IntKind.bits, IntKind.signed]; simp; omega
theorem wrapI (m : Int) (h0 : -9223372036854775808 ≤ m) (h1 : m ≤ 9223372036854775807) : IntKind.i64.wrap m = m := by simp only [IntKind.wrap, IntKind.bits, IntKind.signed]; simp; omega
set_option maxHeartbeats 4000000 in
theorem value0 (x : Int) (h0 : 0 ≤ x) (_h1 : x ≤ 65535) (w : World) : Calls Tryz.prog 54 #[.int .i64 0, .int .u16 x] w (BvP w) := by
  obtain ⟨m, hm⟩ : ∃ m, m = x % 7 := ⟨_, rfl⟩
  obtain ⟨q, hq⟩ : ∃ q, q = x % 3 := ⟨_, rfl⟩
  have hm1 : Int.tmod x 7 = m := by rw [Int.tmod_eq_emod_of_nonneg h0]; exact hm.symm
  have hq1 : Int.tmod x 3 = q := by rw [Int.tmod_eq_emod_of_nonneg h0]; exact hq.symm
  have hm2 := hm.symm
  have hq2 := hq.symm
  have hmb : 0 ≤ m ∧ m ≤ 6 := by omega
  have hqb : 0 ≤ q ∧ q ≤ 2 := by omega
  have hwm := wrapU m (by omega) (by omega)
  have hwq := wrapU q (by omega) (by omega)
  have hwi := wrapI q (by omega) (by omega)
  clear hm hq
  by_cases h6 : m = 6
  · subst h6
    go_enter Tryz.func54, Tryz.ntmps54
    go_wp2_with fail
    exact bodyPost_ret (v := vv ⟨0, 0, []⟩) (by simp [results, Tryz.results54, go_sem, vv]) rfl ⟨_, rfl, by (refine ⟨⟨?_, ?_⟩, ⟨?_, ?_⟩, ?_⟩ <;> simp <;> omega), by repeat (first | exact Ext.refl _ | refine Ext.alloc ?_ _ _ | refine Ext.setNew ?_ _ _ (by simp; try omega) _)⟩
  · have h6' : (m == 6) = false := by simpa using h6
    go_enter Tryz.func54, Tryz.ntmps54
    go_wp2_with fail
    refine (int_val (q - 1) _).mono ?_; rintro e w1 ⟨rfl, hE⟩
    have k0 := hE.keeps (al_c w #[.int .i64 0, .int .i64 0, .string { data := #[] }] 57 0 _ rfl)
    have k1 := hE.keeps (al_c w #[.int .i64 0, .int .i64 0, .string { data := #[] }] 57 1 _ rfl)
    have k2 := hE.keeps (al_c w #[.int .i64 0, .int .i64 0, .string { data := #[] }] 57 2 _ rfl)
    have kf : ∀ j, w1.frozen? ⟨w.heap.size, j, none⟩ = false := fun j => (hE.2.1 ⟨w.heap.size, j, none⟩ (by simp)).trans (by simp [World.frozen?_alloc_at])
    have kf0 := kf 0
    have kf1 := kf 1
    have kf2 := kf 2
    have hsz : w.heap.size < w1.heap.size := World.block_lt_of_cell? _ _ k0
    have hE9 : Ext w w1 := ((Ext.refl _).alloc _ _).trans hE
    clear hE kf
    go_wp2_with fail
    exact bodyPost_ret (v := vv ⟨1, q - 1, []⟩) (by simp [results, Tryz.results54, go_sem, k0, k1, k2]) rfl ⟨_, rfl, by (refine ⟨⟨?_, ?_⟩, ⟨?_, ?_⟩, ?_⟩ <;> simp <;> omega), by repeat (first | exact hE9 | exact Ext.refl _ | refine Ext.alloc ?_ _ _ | refine Ext.setNew ?_ _ _ (by simp; try omega) _)⟩
set_option maxHeartbeats 4000000 in
theorem value1 (x : Int) (h0 : 0 ≤ x) (_h1 : x ≤ 65535) (w : World) : Calls Tryz.prog 54 #[.int .i64 1, .int .u16 x] w (BvP w) := by
  obtain ⟨m, hm⟩ : ∃ m, m = x % 7 := ⟨_, rfl⟩
  obtain ⟨q, hq⟩ : ∃ q, q = x % 3 := ⟨_, rfl⟩
  have hm1 : Int.tmod x 7 = m := by rw [Int.tmod_eq_emod_of_nonneg h0]; exact hm.symm
  have hq1 : Int.tmod x 3 = q := by rw [Int.tmod_eq_emod_of_nonneg h0]; exact hq.symm
  have hm2 := hm.symm
  have hq2 := hq.symm
  have hmb : 0 ≤ m ∧ m ≤ 6 := by omega
  have hqb : 0 ≤ q ∧ q ≤ 2 := by omega
  have hwm := wrapU m (by omega) (by omega)
  have hwq := wrapU q (by omega) (by omega)
  have hwi := wrapI q (by omega) (by omega)
  clear hm hq
  by_cases h6 : m = 6
  · subst h6
    go_enter Tryz.func54, Tryz.ntmps54
    go_wp2_with fail
    exact bodyPost_ret (v := vv ⟨0, 0, []⟩) (by simp [results, Tryz.results54, go_sem, vv]) rfl ⟨_, rfl, by (refine ⟨⟨?_, ?_⟩, ⟨?_, ?_⟩, ?_⟩ <;> simp <;> omega), by repeat (first | exact Ext.refl _ | refine Ext.alloc ?_ _ _ | refine Ext.setNew ?_ _ _ (by simp; try omega) _)⟩
  · have h6' : (m == 6) = false := by simpa using h6
    rcases (show q = 0 ∨ q = 1 ∨ q = 2 by omega) with rfl | rfl | rfl
    · go_enter Tryz.func54, Tryz.ntmps54
      go_wp2_with fail
      exact bodyPost_ret (v := vv ⟨2, 0, []⟩) (by simp [results, Tryz.results54, go_sem, vv]) rfl ⟨_, rfl, by (refine ⟨⟨?_, ?_⟩, ⟨?_, ?_⟩, ?_⟩ <;> simp <;> omega), by repeat (first | exact Ext.refl _ | refine Ext.alloc ?_ _ _ | refine Ext.setNew ?_ _ _ (by simp; try omega) _)⟩
    · go_enter Tryz.func54, Tryz.ntmps54
      go_wp2_with fail
      exact bodyPost_ret (v := vv ⟨2, 0, [97]⟩) (by simp [results, Tryz.results54, go_sem, vv]) rfl ⟨_, rfl, by (refine ⟨⟨?_, ?_⟩, ⟨?_, ?_⟩, ?_⟩ <;> simp <;> omega), by repeat (first | exact Ext.refl _ | refine Ext.alloc ?_ _ _ | refine Ext.setNew ?_ _ _ (by simp; try omega) _)⟩
    · go_enter Tryz.func54, Tryz.ntmps54
      go_wp2_with fail
      exact bodyPost_ret (v := vv ⟨2, 0, [98, 39]⟩) (by simp [results, Tryz.results54, go_sem, vv]) rfl ⟨_, rfl, by (refine ⟨⟨?_, ?_⟩, ⟨?_, ?_⟩, ?_⟩ <;> simp <;> omega), by repeat (first | exact Ext.refl _ | refine Ext.alloc ?_ _ _ | refine Ext.setNew ?_ _ _ (by simp; try omega) _)⟩
/-- some values of the call's own -/
def BwP (w : World) (e : Ending) (w' : World) : Prop := ∃ (v : Value) (l : List V), e = .returned v ∧ OwnG tV.e w w' v l ∧ l.length = 2 ∧ ∀ v ∈ l, SmV v
set_option maxHeartbeats 4000000 in
theorem vals_law (x y : Int) (hx0 : 0 ≤ x) (hx1 : x ≤ 65535) (hy0 : 0 ≤ y) (hy1 : y ≤ 65535) (w : World) : Calls Tryz.prog 30 #[.int .u16 x, .int .u16 y] w (BwP w) := by
  have H0 := Lib.hid (fun w => value0 x hx0 hx1 w)
  have H1 := Lib.hid (fun w => value1 y hy0 hy1 w)
  go_enter Tryz.func30, Tryz.ntmps30
  go_wp2_with fail
  refine (H0.out _).mono ?_; rintro e w1 ⟨⟨ak, an, az⟩, rfl, sm1, hE⟩
  go_wp2_with fail
  refine (H1.out _).mono ?_; rintro e w2 ⟨⟨bk, bn, bz⟩, rfl, sm2, hE2⟩
  have hE3 := hE.trans hE2
  have SM1 := Lib.hid sm1
  have SM2 := Lib.hid sm2
  clear sm1 sm2
  go_wp2_with fail
  go_ret
  exact ⟨_, [⟨ak, an, az⟩, ⟨bk, bn, bz⟩], rfl, own_litB _ hE3 _ _ _ _ rfl rfl (by simp) rfl, rfl, fun v hv => by simp only [List.mem_cons, List.not_mem_nil, or_false] at hv; rcases hv with rfl | rfl; exact SM1.out; exact SM2.out⟩
/-- some period -/
def BpP (w : World) (e : Ending) (w' : World) : Prop := ∃ a b, e = .returned (pv a b) ∧ Ext w w'
end Go.Proofs.YtcankdikbnllkaaGreat
/- The laws' values, exactly; the laws' constants. -/
namespace Go.Proofs.YtcankdikbnllkaaGreat
open Go.ChangeShapes Go.WideShapes Go.ChangeAt Go.RowKit

def txtW (q : Int) : List UInt8 := if q = 0 then [] else if q = 1 then [97] else [98, 39]
/-- law0's Value -/
def valW (col x : Int) : V := if x % 7 = 6 then nul else if col = 0 then ⟨1, x % 3 - 1, []⟩ else ⟨2, 0, txtW (x % 3)⟩
set_option maxHeartbeats 4000000 in
theorem valx0 (x : Int) (h0 : 0 ≤ x) (_h1 : x ≤ 65535) (w : World) : Calls Tryz.prog 54 #[.int .i64 0, .int .u16 x] w (fun e w' => e = .returned (vv (valW 0 x)) ∧ Ext w w') := by
  obtain ⟨m, hm⟩ : ∃ m, m = x % 7 := ⟨_, rfl⟩
  obtain ⟨q, hq⟩ : ∃ q, q = x % 3 := ⟨_, rfl⟩
  have hm1 : Int.tmod x 7 = m := by rw [Int.tmod_eq_emod_of_nonneg h0]; exact hm.symm
  have hq1 : Int.tmod x 3 = q := by rw [Int.tmod_eq_emod_of_nonneg h0]; exact hq.symm
  have hm2 := hm.symm
  have hq2 := hq.symm
  have hmb : 0 ≤ m ∧ m ≤ 6 := by omega
  have hqb : 0 ≤ q ∧ q ≤ 2 := by omega
  have hwm := wrapU m (by omega) (by omega)
  have hwq := wrapU q (by omega) (by omega)
  have hwi := wrapI q (by omega) (by omega)
  clear hm hq
  by_cases h6 : m = 6
  · subst h6
    have HVW := Lib.hid (show valW 0 x = ⟨0, 0, []⟩ by unfold valW; rw [if_pos hm2]; rfl)
    go_enter Tryz.func54, Tryz.ntmps54
    go_wp2_with fail
    exact bodyPost_ret (v := vv ⟨0, 0, []⟩) (by simp [results, Tryz.results54, go_sem, vv]) rfl ⟨by rw [HVW.out], by repeat (first | exact Ext.refl _ | refine Ext.alloc ?_ _ _ | refine Ext.setNew ?_ _ _ (by simp; try omega) _)⟩
  · have HVW := Lib.hid (show valW 0 x = ⟨1, q - 1, []⟩ by unfold valW; rw [if_neg (by rw [hm2]; exact h6), if_pos rfl, hq2])
    have h6' : (m == 6) = false := by simpa using h6
    go_enter Tryz.func54, Tryz.ntmps54
    go_wp2_with fail
    refine (int_val (q - 1) _).mono ?_; rintro e w1 ⟨rfl, hE⟩
    have k0 := hE.keeps (al_c w #[.int .i64 0, .int .i64 0, .string { data := #[] }] 57 0 _ rfl)
    have k1 := hE.keeps (al_c w #[.int .i64 0, .int .i64 0, .string { data := #[] }] 57 1 _ rfl)
    have k2 := hE.keeps (al_c w #[.int .i64 0, .int .i64 0, .string { data := #[] }] 57 2 _ rfl)
    have kf : ∀ j, w1.frozen? ⟨w.heap.size, j, none⟩ = false := fun j => (hE.2.1 ⟨w.heap.size, j, none⟩ (by simp)).trans (by simp [World.frozen?_alloc_at])
    have kf0 := kf 0
    have kf1 := kf 1
    have kf2 := kf 2
    have hsz : w.heap.size < w1.heap.size := World.block_lt_of_cell? _ _ k0
    have hE9 : Ext w w1 := ((Ext.refl _).alloc _ _).trans hE
    clear hE kf
    go_wp2_with fail
    exact bodyPost_ret (v := vv ⟨1, q - 1, []⟩) (by simp [results, Tryz.results54, go_sem, k0, k1, k2]) rfl ⟨by rw [HVW.out], by repeat (first | exact hE9 | exact Ext.refl _ | refine Ext.alloc ?_ _ _ | refine Ext.setNew ?_ _ _ (by simp; try omega) _)⟩
set_option maxHeartbeats 4000000 in
theorem valx1 (x : Int) (h0 : 0 ≤ x) (_h1 : x ≤ 65535) (w : World) : Calls Tryz.prog 54 #[.int .i64 1, .int .u16 x] w (fun e w' => e = .returned (vv (valW 1 x)) ∧ Ext w w') := by
  obtain ⟨m, hm⟩ : ∃ m, m = x % 7 := ⟨_, rfl⟩
  obtain ⟨q, hq⟩ : ∃ q, q = x % 3 := ⟨_, rfl⟩
  have hm1 : Int.tmod x 7 = m := by rw [Int.tmod_eq_emod_of_nonneg h0]; exact hm.symm
  have hq1 : Int.tmod x 3 = q := by rw [Int.tmod_eq_emod_of_nonneg h0]; exact hq.symm
  have hm2 := hm.symm
  have hq2 := hq.symm
  have hmb : 0 ≤ m ∧ m ≤ 6 := by omega
  have hqb : 0 ≤ q ∧ q ≤ 2 := by omega
  have hwm := wrapU m (by omega) (by omega)
  have hwq := wrapU q (by omega) (by omega)
  have hwi := wrapI q (by omega) (by omega)
  clear hm hq
  by_cases h6 : m = 6
  · subst h6
    have HVW := Lib.hid (show valW 1 x = ⟨0, 0, []⟩ by unfold valW; rw [if_pos hm2]; rfl)
    go_enter Tryz.func54, Tryz.ntmps54
    go_wp2_with fail
    exact bodyPost_ret (v := vv ⟨0, 0, []⟩) (by simp [results, Tryz.results54, go_sem, vv]) rfl ⟨by rw [HVW.out], by repeat (first | exact Ext.refl _ | refine Ext.alloc ?_ _ _ | refine Ext.setNew ?_ _ _ (by simp; try omega) _)⟩
  · have hvw : valW 1 x = ⟨2, 0, txtW q⟩ := by unfold valW; rw [if_neg (by rw [hm2]; exact h6), if_neg (by decide), hq2]
    have h6' : (m == 6) = false := by simpa using h6
    rcases (show q = 0 ∨ q = 1 ∨ q = 2 by omega) with rfl | rfl | rfl
    · have HVW := Lib.hid (show valW 1 x = ⟨2, 0, []⟩ from hvw)
      clear hvw
      go_enter Tryz.func54, Tryz.ntmps54
      go_wp2_with fail
      exact bodyPost_ret (v := vv ⟨2, 0, []⟩) (by simp [results, Tryz.results54, go_sem, vv]) rfl ⟨by rw [HVW.out], by repeat (first | exact Ext.refl _ | refine Ext.alloc ?_ _ _ | refine Ext.setNew ?_ _ _ (by simp; try omega) _)⟩
    · have HVW := Lib.hid (show valW 1 x = ⟨2, 0, [97]⟩ from hvw)
      clear hvw
      go_enter Tryz.func54, Tryz.ntmps54
      go_wp2_with fail
      exact bodyPost_ret (v := vv ⟨2, 0, [97]⟩) (by simp [results, Tryz.results54, go_sem, vv]) rfl ⟨by rw [HVW.out], by repeat (first | exact Ext.refl _ | refine Ext.alloc ?_ _ _ | refine Ext.setNew ?_ _ _ (by simp; try omega) _)⟩
    · have HVW := Lib.hid (show valW 1 x = ⟨2, 0, [98, 39]⟩ from hvw)
      clear hvw
      go_enter Tryz.func54, Tryz.ntmps54
      go_wp2_with fail
      exact bodyPost_ret (v := vv ⟨2, 0, [98, 39]⟩) (by simp [results, Tryz.results54, go_sem, vv]) rfl ⟨by rw [HVW.out], by repeat (first | exact Ext.refl _ | refine Ext.alloc ?_ _ _ | refine Ext.setNew ?_ _ _ (by simp; try omega) _)⟩
end Go.Proofs.YtcankdikbnllkaaGreat
