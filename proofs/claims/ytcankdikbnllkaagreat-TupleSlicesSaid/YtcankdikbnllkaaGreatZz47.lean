/- FromRows, by the program and by the reference. -/
import Derived.Test.YtcankdikbnllkaaGreatZz08
import Derived.Test.YtcankdikbnllkaaGreatZz29
namespace Go.Proofs.YtcankdikbnllkaaGreat
open Go.ChangeShapes Go.WideShapes Go.ChangeAt Go.RowKit

def frL (rs : List R) (a b : Int) : List Tu := if okV a b = true then rs.map fun r => ⟨r, a, b⟩ else []
def mkF (a b : Int) (r : R) : Tu := ⟨r, a, b⟩
def mkQ (a b : Int) (p : P) : TP := ⟨p.h, p.r, a, b⟩
theorem tus_mkQ (a b : Int) (ps : List P) : tus (ps.map (mkQ a b)) = (rows ps).map (mkF a b) := by unfold tus rows; rw [List.map_map, List.map_map]; rfl
def FrP (rs : List R) (a b : Int) (w : World) (e : Ending) (w' : World) : Prop := ∃ v' qs, e = .returned v' ∧ RdG w' v' qs ∧ RdTs w' qs ∧ tus qs = frL rs a b ∧ Ext w w'
def FrR (W : World) (l : List Tu) (vn i : Value) (wr : World) : Prop := ∃ k : Nat, k ≤ l.length ∧ i = .int .i64 k ∧ OwnTs W wr vn (l.take k)
set_option maxHeartbeats 8000000 in
set_option maxRecDepth 100000 in
theorem from_prg (ps : List P) (a b : Int) (v : Value) (w : World) (h : RdG w v ps) (hI : RdAll w ps) (hl : ps.length ≤ 100000) (hs : ∀ p ∈ ps, p.r.v.length ≤ 1000000 ∧ p.r.t.length ≤ 1000000) : Calls Tryz.prog 22 #[v, pv a b] w (FrP (rows ps) a b w) := by
  obtain ⟨ad, cap, rfl, h1, h2⟩ := h.shape
  have H := Lib.hid h
  have HI := Lib.hid hI
  have HS := Lib.hid hs
  clear h hI hs
  unfold maxLen at h2
  obtain ⟨n, hn⟩ : ∃ n, n = ps.length := ⟨_, rfl⟩
  have HN := Lib.hid hn
  rw [← hn] at H h1 hl ⊢
  clear hn
  cases hv : okV a b with
  | false =>
    have HV := Lib.hid hv
    have HZ := Lib.hid (show ([] : List Tu) = frL (rows ps) a b by unfold frL; rw [hv]; rfl)
    clear hv
    go_enter Tryz.func22, Tryz.ntmps22
    go_wp2_with fail
    refine (vpp_no a b _ HV.out).mono ?_; rintro e w1 ⟨rfl, hg⟩
    go_wp2_with fail
    go_ret
    exact ⟨_, [], rfl, rdG_nil _, fun p hp => absurd hp List.not_mem_nil, HZ.out, ((Ext.refl w).alloc _ _).trans (ext_of_grown hg)⟩
  | true =>
    have HV := Lib.hid hv
    have HZ := Lib.hid (show (rows ps).map (mkF a b) = frL (rows ps) a b by unfold frL; rw [if_pos hv]; rfl)
    clear hv
    go_enter Tryz.func22, Tryz.ntmps22
    go_wp2_with fail
    refine (vpp_yes a b _ HV.out).mono ?_; rintro e w1 ⟨rfl, hg⟩
    have hE1 := ext_of_grown hg
    have p0 := hE1.keeps (al0 w (.int .i64 a) (.int .i64 b) 24)
    have p1 := hE1.keeps (al1 w (.int .i64 a) (.int .i64 b) 24)
    have HE1 := Lib.hid (((Ext.refl w).alloc _ _).trans hE1)
    clear hg hE1
    go_wp2_with fail
    go_loopw [5, 13] (FrR w1 ((rows ps).map (mkF a b))) (fun _ i _ => n - (intOf i).toNat)
    case atStart => exact ⟨0, Nat.zero_le _, rfl, by simpa using OwnTs.nil (Ext.refl w1)⟩
    case round =>
      obtain ⟨k, hk, rfl, hO⟩ := hrel
      rw [List.length_map, rows_len] at hk
      have hkn : k ≤ n := by rw [HN.out]; exact hk
      by_cases hlt : k < n
      · have hlt' : k < ps.length := by rw [← HN.out]; exact hlt
        obtain ⟨g, o, rfl, c0', c1'⟩ := rd_P H.out k hlt'
        have hWr := hO.old
        have c0 := (HE1.out.trans hWr).keeps c0'
        have c1 := (HE1.out.trans hWr).keeps c1'
        have q0 := hWr.keeps p0
        have q1 := hWr.keeps p1
        have hi0 : (0 : Int) ≤ (k : Int) := by omega
        have hi1 : (k : Int) < (n : Int) := by omega
        have hix := HI.out ps[k] (List.getElem_mem _)
        have hsx := HS.out ps[k] (List.getElem_mem _)
        have HE := Lib.hid (List.take_succ_eq_append_getElem (l := (rows ps).map (mkF a b)) (i := k) (by rw [List.length_map, rows_len]; exact hlt'))
        rw [List.getElem_map, rows_at ps k hlt'] at HE
        have hwp := fun w2 (hg : Ext w w2) => withP_prg ps[k] a b w2 (hix.ext hg) hsx
        clear c0' c1'
        generalize ps[k] = x at *
        obtain ⟨⟨xa, xn, xc, xb, xm, xd⟩, xr⟩ := x
        simp only [Hd.x, Hd.y] at c0 c1 hwp
        have HWP := Lib.hid hwp
        obtain ⟨qs, hq1, hq2, hq3⟩ := hO
        have hqn : qs.length ≤ 100000 := by
          have e1 : (tus qs).length = qs.length := tus_len qs
          rw [hq3, List.length_take, List.length_map, rows_len] at e1
          omega
        have hzw : w.heap.size < wr.heap.size := World.block_lt_of_cell? _ _ q0
        clear hwp hix hsx
        have EX : Ext wr (wr.alloc (.cells #[.slice xa xn xc, .slice xb xm xd] 53)) := (Ext.refl wr).alloc _ _
        have HQ := Lib.hid hq1
        have HQ2 := Lib.hid hq2
        have HQ3 := Lib.hid hq3
        have HQN := Lib.hid hqn
        have HW0 := Lib.hid ((HE1.out.trans hWr).trans EX)
        have HEX := Lib.hid EX
        clear hq1 hq2 hq3 hqn EX
        go_wp2_with fail
        refine (HWP.out _ HW0.out).mono ?_; rintro e w4 ⟨⟨ya, yn, yc, yb, ym, yd⟩, rfl, o1, o2⟩
        have HO1 := Lib.hid o1
        have HO2 := Lib.hid o2
        have HE4 := Lib.hid (HEX.out.trans o1.2)
        have EA := Lib.hid ((Ext.refl w4).alloc #[Value.slice ya yn yc, .int .i64 a, .int .i64 b, Value.slice yb ym yd] 32)
        clear o1 o2 c0 c1 q0 q1
        go_wp2_with (at_builtin; refine appG tT rfl _ _ rfl w1 _ qs rfl ?a1 _ [(⟨⟨ya, yn, yc, yb, ym, yd⟩, xr, a, b⟩ : TP)] rfl ?a2 ?a3 ?_; (case a1 => exact HQ.out.ext (HE4.out.trans EA.out)); (case a2 => exact rd_litG w4 [(⟨⟨ya, yn, yc, yb, ym, yd⟩, xr, a, b⟩ : TP)] #[Value.slice ya yn yc, .int .i64 a, .int .i64 b, Value.slice yb ym yd] 32 _ 1 rfl rfl (by simp) rfl); (case a3 => have := HQN.out; simp; omega); intro v5 w5 hO5 hg5)
        have hEL := HE4.out.trans EA.out
        have hOT := Lib.hid (OwnTs.more (HQ.out.ext hEL) (fun p hp => ⟨(HQ2.out p hp).1.ext hEL, (HQ2.out p hp).2.1.ext hEL, (HQ2.out p hp).2.2.ext hEL⟩) HQ3.out (p := (⟨⟨ya, yn, yc, yb, ym, yd⟩, xr, a, b⟩ : TP)) ⟨⟨HO1.out.rd.ext EA.out, HO2.out.rd.ext EA.out⟩, (HO1.out.off (by decide)).ext EA.out, (HO2.out.off (by decide)).ext EA.out⟩ hO5 hg5)
        clear hEL hO5 hg5
        go_roundw
        case rel => exact ⟨k + 1, by rw [List.length_map, rows_len]; exact hlt', by go_num, by rw [HE.out]; exact hOT.out⟩
        case measure => first | (simp [intOf]; done) | (simp [intOf]; omega)
      · have hke : k = n := by omega
        have hall : ((rows ps).map (mkF a b)).take k = (rows ps).map (mkF a b) := by rw [List.take_of_length_le]; rw [List.length_map, rows_len, ← HN.out, hke]; exact Nat.le_refl _
        rw [hall] at hO
        have HO := Lib.hid hO
        clear hO hall
        go_wp2_with fail
        go_ret
        obtain ⟨qs, z1, z2, z3⟩ := HO.out
        exact ⟨_, qs, rfl, z1.rd, fun p hp => (z2 p hp).1, by rw [z3]; exact HZ.out, HE1.out.trans z1.2⟩
def FqR (W : World) (l : List TP) (vn i : Value) (wr : World) : Prop := ∃ k : Nat, k ≤ l.length ∧ i = .int .i64 k ∧ OwnG tT.e W wr vn (l.take k)
set_option maxHeartbeats 8000000 in
set_option maxRecDepth 100000 in
theorem from_ref (ps : List P) (a b : Int) (v : Value) (w : World) (h : RdG w v ps) (hI : RdAll w ps) (hl : ps.length ≤ 100000) : Calls Tryz.prog 23 #[v, pv a b] w (FrP (rows ps) a b w) := by
  obtain ⟨ad, cap, rfl, h1, h2⟩ := h.shape
  have H := Lib.hid h
  have HI := Lib.hid hI
  clear h hI
  unfold maxLen at h2
  obtain ⟨n, hn⟩ : ∃ n, n = ps.length := ⟨_, rfl⟩
  have HN := Lib.hid hn
  rw [← hn] at H h1 hl ⊢
  clear hn
  cases hv : okV a b with
  | false =>
    have HV := Lib.hid hv
    have HZ := Lib.hid (show ([] : List Tu) = frL (rows ps) a b by unfold frL; rw [hv]; rfl)
    clear hv
    go_enter Tryz.func23, Tryz.ntmps23
    go_wp2_with fail
    refine (vp_no a b _ HV.out).mono ?_; rintro e w1 ⟨rfl, hg⟩
    go_wp2_with fail
    go_ret
    exact ⟨_, [], rfl, rdG_nil _, fun p hp => absurd hp List.not_mem_nil, HZ.out, ((Ext.refl w).alloc _ _).trans (ext_of_grown hg)⟩
  | true =>
    have HV := Lib.hid hv
    have HZ := Lib.hid (show (rows ps).map (mkF a b) = frL (rows ps) a b by unfold frL; rw [if_pos hv]; rfl)
    clear hv
    go_enter Tryz.func23, Tryz.ntmps23
    go_wp2_with fail
    refine (vp_yes a b _ HV.out).mono ?_; rintro e w1 ⟨rfl, hg⟩
    have hE1 := ext_of_grown hg
    have p0 := hE1.keeps (al0 w (.int .i64 a) (.int .i64 b) 24)
    have p1 := hE1.keeps (al1 w (.int .i64 a) (.int .i64 b) 24)
    have HE1 := Lib.hid (((Ext.refl w).alloc _ _).trans hE1)
    clear hg hE1
    go_wp2_with fail
    go_loopw [5, 13] (FqR w1 (ps.map (mkQ a b))) (fun _ i _ => n - (intOf i).toNat)
    case atStart => exact ⟨0, Nat.zero_le _, rfl, by simpa using OwnG.nil _ _ _ (Ext.refl w1)⟩
    case round =>
      obtain ⟨k, hk, rfl, hO⟩ := hrel
      rw [List.length_map] at hk
      have hkn : k ≤ n := by rw [HN.out]; exact hk
      by_cases hlt : k < n
      · have hlt' : k < ps.length := by rw [← HN.out]; exact hlt
        obtain ⟨g, o, rfl, c0', c1'⟩ := rd_P H.out k hlt'
        have c0 := (HE1.out.trans hO.2).keeps c0'
        have c1 := (HE1.out.trans hO.2).keeps c1'
        have q0 := hO.2.keeps p0
        have q1 := hO.2.keeps p1
        have hi0 : (0 : Int) ≤ (k : Int) := by omega
        have hi1 : (k : Int) < (n : Int) := by omega
        have HE := Lib.hid (List.take_succ_eq_append_getElem (l := ps.map (mkQ a b)) (i := k) (by rw [List.length_map]; exact hlt'))
        rw [List.getElem_map] at HE
        have hln : ((ps.map (mkQ a b)).take k).length ≤ 100000 := by rw [List.length_take, List.length_map]; omega
        have hzw : w.heap.size < wr.heap.size := World.block_lt_of_cell? _ _ q0
        clear c0' c1'
        generalize ps[k] = x at *
        obtain ⟨⟨xa, xn, xc, xb, xm, xd⟩, xr⟩ := x
        simp only [Hd.x, Hd.y] at c0 c1
        have HO := Lib.hid hO
        have HQN := Lib.hid hln
        generalize hqs : (ps.map (mkQ a b)).take k = qs at *
        have HQS := Lib.hid hqs
        clear hO hln hqs
        go_wp2_with (at_builtin; refine appG tT rfl _ _ rfl w1 _ qs rfl ?a1 _ [(⟨⟨xa, xn, xc, xb, xm, xd⟩, xr, a, b⟩ : TP)] rfl ?a2 ?a3 ?_; (case a1 => exact HO.out.ext (((Ext.refl wr).alloc _ _).alloc _ _)); (case a2 => exact rd_litG _ [(⟨⟨xa, xn, xc, xb, xm, xd⟩, xr, a, b⟩ : TP)] #[Value.slice xa xn xc, .int .i64 a, .int .i64 b, Value.slice xb xm xd] 32 _ 1 (alsz _ _).symm rfl (by simp) rfl); (case a3 => have := HQN.out; simp; omega); intro v5 w5 hO5 hg5)
        go_roundw
        case rel => exact ⟨k + 1, by rw [List.length_map]; exact hlt', by go_num, by rw [HE.out]; exact hO5⟩
        case measure => first | (simp [intOf]; done) | (simp [intOf]; omega)
      · have hke : k = n := by omega
        have hall : (ps.map (mkQ a b)).take k = ps.map (mkQ a b) := by rw [List.take_of_length_le]; rw [List.length_map, ← HN.out, hke]; exact Nat.le_refl _
        rw [hall] at hO
        have HO := Lib.hid hO
        clear hO hall
        go_wp2_with fail
        go_ret
        exact ⟨_, _, rfl, HO.out.rd, fun p hp => by
          obtain ⟨q, hq, rfl⟩ := List.mem_map.1 hp
          exact (show RdRow w q from HI.out q hq).ext (HE1.out.trans HO.out.2), by rw [tus_mkQ]; exact HZ.out, HE1.out.trans HO.out.2⟩
end Go.Proofs.YtcankdikbnllkaaGreat
