/- Evaluating a query, of the program: selections, projections. -/
import Derived.Test.YtfojeajmonnifaaGreatDoorZz03
import Derived.Test.YtfojeajmonnifaaGreatDoorZz13
import Derived.Test.YtfojeajmonnifaaGreatDoorZz21
import Derived.Test.YtfojeajmonnifaaGreatDoorZz22
namespace Go.Proofs.YtfojeajmonnifaaGreatDoor
open Go.ChangeShapes Go.WideShapes Go.ChangeAt Go.RowKit

/-- a row that may stand in rows of the call's own -/
def Fine (S : Nat → Prop) (W w : World) (p : P) : Prop := (RdRow w p ∧ Off tP.e W w p.h.x ∧ Off tP.e W w p.h.y) ∧ In S p.h.x ∧ In S p.h.y
theorem Fine.ext {S : Nat → Prop} {W w w' : World} {p : P} (h : Fine S W w p) (e : Ext w w') : Fine S W w' p := ⟨⟨h.1.1.ext e, h.1.2.1.ext e, h.1.2.2.ext e⟩, h.2⟩
theorem Fine.grw {S : Nat → Prop} {W w w' : World} {p : P} {b : Option Nat} (h : Fine S W w p) (k : Grw w w' b) (hb : RowBlk tP.e W w b) : Fine S W w' p := ⟨RdRow.grw h.1 k hb, h.2⟩
theorem fine_old {S : Nat → Prop} {W w : World} {p : P} (h : RdRow W p) (hx : In S p.h.x) (hy : In S p.h.y) (e : Ext W w) : Fine S W w p := ⟨⟨h.ext e, off_old h.1, off_old h.2⟩, hx, hy⟩
/-- rows of the call's own, their parts lying off and in S -/
def OwnQ (S : Nat → Prop) (W w : World) (v : Value) (l : List R) : Prop := ∃ ps : List P, OwnG tP.e W w v ps ∧ (∀ p ∈ ps, Fine S W w p) ∧ rows ps = l
theorem OwnQ.nil (S : Nat → Prop) {W w : World} (h : Ext W w) : OwnQ S W w (.slice none 0 0) [] := ⟨[], OwnG.nil _ _ _ h, fun p hp => (by cases hp), rfl⟩
theorem OwnQ.old {S : Nat → Prop} {W w : World} {v : Value} {l : List R} (h : OwnQ S W w v l) : Ext W w := by obtain ⟨ps, h1, _⟩ := h; exact h1.2
theorem OwnQ.ext {S : Nat → Prop} {W w w' : World} {v : Value} {l : List R} (h : OwnQ S W w v l) (e : Ext w w') : OwnQ S W w' v l := by
  obtain ⟨ps, h1, h2, h3⟩ := h
  exact ⟨ps, h1.ext e, fun p hp => (h2 p hp).ext e, h3⟩
theorem OwnQ.app {S : Nat → Prop} {W w w' : World} {v v' : Value} {l : List R} {ps qs : List P} (h1 : OwnG tP.e W w v ps) (h2 : ∀ p ∈ ps, Fine S W w p) (h3 : rows ps = l) (hq : ∀ p ∈ qs, Fine S W w p)
    (ho : OwnG tP.e W w' v' (ps ++ qs)) (hg : w.grownBy w' v.ownBlock) : OwnQ S W w' v' (l ++ rows qs) := by
  refine ⟨ps ++ qs, ho, fun q hq' => ?_, by rw [rows_app, h3]⟩
  rcases List.mem_append.1 hq' with hq' | hq'
  · exact (h2 q hq').grw (grw_by hg) h1.blk
  · exact (hq q hq').grw (grw_by hg) h1.blk
theorem OwnQ.base {S : Nat → Prop} {W W' w : World} {v : Value} {l : List R} (h : OwnQ S W w v l) (hE : Ext W' W) (hU : Up S W) : ∃ v', v' = v ∧ RdR S w v' l ∧ Ext W' w := by
  obtain ⟨ps, h1, h2, h3⟩ := h
  exact ⟨v, rfl, ⟨ps, h1.rd, h1.inn hU, fun p hp => ⟨(h2 p hp).1.1, (h2 p hp).2⟩, h3⟩, hE.trans h1.2⟩
theorem OwnQ.roP {S : Nat → Prop} {W W' w : World} {v : Value} {l : List R} (h : OwnQ S W w v l) (hE : Ext W' W) (hU : Up S W) : RoP S W' l (.returned v) w := by
  obtain ⟨v', rfl, h1, h2⟩ := h.base hE hU
  exact ⟨_, rfl, h1, h2⟩
theorem OwnQ.len {S : Nat → Prop} {W w : World} {v : Value} {l : List R} (h : OwnQ S W w v l) : ∃ a c, v = .slice a l.length c := by
  obtain ⟨ps, h1, h2, rfl⟩ := h
  obtain ⟨a, c, e, _⟩ := h1.rd.shape
  exact ⟨a, c, by rw [rows_len]; exact e⟩
/-- numbers of all rows stay within 64 bits -/
def OkRs (l : List R) : Prop := ∀ r ∈ l, OkR r.v
def SeR (S : Nat → Prop) (W1 : World) (es : List X) (p : Int) (l : List R) (v i : Value) (wr : World) : Prop := ∃ k : Nat, k ≤ l.length ∧ i = .int .i64 k ∧ OwnQ S W1 wr v (selL es p (l.take k))
theorem sel_step (es : List X) (p : Int) (l : List R) (k : Nat) (h : k < l.length) : selL es p (l.take (k + 1)) = selL es p (l.take k) ++ if hldB es p l[k].v = true then [l[k]] else [] := by
  unfold selL
  rw [List.take_succ_eq_append_getElem h, List.filter_append, List.filter_cons]
  rfl
theorem sel_len (es : List X) (p : Int) (l : List R) : (selL es p l).length ≤ l.length := List.length_filter_le _ _
set_option maxHeartbeats 4000000 in
set_option maxRecDepth 100000 in
theorem sel_prg (S : Nat → Prop) (es : List X) (p : Int) (l : List R) (a2 a3 a4 : Option Addr) (n2 n3 n4 c2 c3 c4 : Nat) (ve vr : Value) (w : World) (hl : RdG w ve es) (hr : RdR S w vr l) (hU : Up S w) (hs : es.length ≤ 1000) (hx : OkX es) (ho : OkRs l) (hll : l.length ≤ 1000000) :
    Calls Tryz.prog 99 #[eaV ve (.slice a2 n2 c2) (.slice a3 n3 c3) (.slice a4 n4 c4), .int .i64 p, vr] w (RoP S w (selL es p l)) := by
  have HH := Lib.hid (fun (row : List V) vv w' (hE : Ext w w') (hr : RdG w' vv row) (ho : OkR row) => holds_prg es p row a2 a3 a4 n2 n3 n4 c2 c3 c4 ve vv w' (hl.ext hE) hr hs hx ho)
  obtain ⟨ad, cap, rfl, _, _⟩ := hl.shape
  obtain ⟨ps, h1, h2, h3, rfl⟩ := hr
  obtain ⟨bd, bcap, rfl, b1, b2⟩ := h1.shape
  have HP := Lib.hid h1
  have HF := Lib.hid h3
  have HU := Lib.hid hU
  have HO := Lib.hid ho
  have HLL := Lib.hid hll
  clear hl h1 h2 h3 hs hx ho hU hll
  obtain ⟨n, hn⟩ : ∃ n, n = es.length := ⟨_, rfl⟩
  obtain ⟨t, ht⟩ : ∃ t, t = ps.length := ⟨_, rfl⟩
  have HT := Lib.hid ht
  rw [← hn] at HH ⊢
  rw [← ht] at HP b1 ⊢
  clear hn ht
  unfold maxLen at b2
  obtain ⟨W1, hW⟩ : ∃ W1, W1 = w.alloc (.cells #[.slice ad n cap, .slice a2 n2 c2, .slice a3 n3 c3, .slice a4 n4 c4] 124) := ⟨_, rfl⟩
  have HW := Lib.hid (show Ext w W1 by rw [hW]; exact (Ext.refl _).alloc _ _)
  have HBX := Lib.hid (show Bxn w.heap.size [.slice ad n cap, .slice a2 n2 c2, .slice a3 n3 c3, .slice a4 n4 c4] W1 by rw [hW]; exact Bxn.new w _ _)
  have hW' := Lib.hid hW
  clear hW
  go_enter Tryz.func99, Tryz.ntmps99
  go_wp2_with fail
  go_loopw [7, 12] (SeR S W1 es p (rows ps)) (fun _ i _ => t - (intOf i).toNat)
  case atStart => exact ⟨0, Nat.zero_le _, rfl, by rw [← hW'.out]; exact OwnQ.nil S (Ext.refl _)⟩
  case round =>
    obtain ⟨k, hk, rfl, hO⟩ := hrel
    rw [rows_len] at hk
    have hkt : k ≤ t := by rw [HT.out]; exact hk
    have hEw := Lib.hid (HW.out.trans hO.old)
    have hbx := HBX.out.ext hO.old
    have k0 := (hbx.2 0 _ rfl).1
    have k1 := (hbx.2 1 _ rfl).1
    have k2 := (hbx.2 2 _ rfl).1
    have k3 := (hbx.2 3 _ rfl).1
    have s0 := hbx.1
    clear hbx
    by_cases hlt : k < t
    · have hlt' : k < ps.length := by rw [← HT.out]; exact hlt
      have hlr : k < (rows ps).length := by rw [rows_len]; exact hlt'
      obtain ⟨g, o, rfl, d0', d1'⟩ := rd_P HP.out k hlt'
      have d0 := hEw.out.keeps d0'
      have d1 := hEw.out.keeps d1'
      clear d0' d1'
      have hst := sel_step es p (rows ps) k hlr
      rw [rows_at ps k hlt'] at hst
      have hfi := HF.out ps[k] (List.getElem_mem _)
      have hok := HO.out ps[k].r (List.mem_map_of_mem (List.getElem_mem _))
      have hpl : (selL es p ((rows ps).take k)).length ≤ 1000000 := Nat.le_trans (sel_len _ _ _) (by rw [List.length_take]; have := HLL.out; omega)
      generalize ps[k] = x at *
      obtain ⟨⟨xa, xn, xc, xb, xm, xd⟩, xr⟩ := x
      simp only [Hd.x, Hd.y] at d0 d1 hfi hst hok
      have hfin : Fine S W1 wr (⟨⟨xa, xn, xc, xb, xm, xd⟩, xr⟩ : P) := (fine_old (hfi.1.ext HW.out) hfi.2.1 hfi.2.2 hO.old)
      have HHH := Lib.hid (fun w' (hE : Ext w w') => HH.out xr.v _ w' hE (hfi.1.1.ext hE) hok)
      simp only [Hd.x] at HHH
      have HFI := Lib.hid hfin
      have HO := Lib.hid hO
      have HPL := Lib.hid hpl
      clear hfi hok hO hpl hfin
      generalize selL es p ((rows ps).take k) = pre at *
      cases hb : hldB es p xr.v with
      | true =>
        rw [hb, if_pos rfl] at hst
        rw [hb] at HHH
        have HST := Lib.hid hst
        have HL := Lib.hid hlt'
        clear hst hb
        obtain ⟨qs, hq1, hq2, hq3⟩ := HO.out
        have hql : qs.length ≤ 1000000 := by have e := rows_len qs; rw [hq3] at e; have := HPL.out; omega
        have HQ1 := Lib.hid hq1
        have HQ2 := Lib.hid hq2
        have HQ3 := Lib.hid hq3
        have HQL := Lib.hid hql
        clear hq1 hq2 hq3 hql
        go_wp2_with fail
        refine (HHH.out _ (hEw.out.alloc _ _)).mono ?_; rintro e w2 ⟨rfl, hE⟩
        have hE2 := ((Ext.refl wr).alloc #[.slice xa xn xc, .slice xb xm xd] 67).trans hE
        have m0 := hE.keeps (al0 wr (.slice xa xn xc) (.slice xb xm xd) 67)
        have m1 := hE.keeps (al1 wr (.slice xa xn xc) (.slice xb xm xd) 67)
        have ms : wr.heap.size < w2.heap.size := World.block_lt_of_cell? _ _ m0
        have HE2 := Lib.hid hE2
        clear hE hE2
        go_wp2_with (at_builtin; refine appG tP rfl _ _ rfl W1 _ qs rfl (HQ1.out.ext (HE2.out.alloc _ _)) _ [⟨⟨xa, xn, xc, xb, xm, xd⟩, xr⟩] rfl (rd_litG w2 [(⟨⟨xa, xn, xc, xb, xm, xd⟩, xr⟩ : P)] #[.slice xa xn xc, .slice xb xm xd] 67 _ 1 rfl rfl (by simp) rfl) (by have := HQL.out; simp; omega) ?_; intro v' w' hO' hg')
        go_roundw
        case rel =>
          refine ⟨k + 1, by rw [rows_len]; exact HL.out, by go_num, ?_⟩
          rw [HST.out]
          exact OwnQ.app (HQ1.out.ext (HE2.out.alloc _ _)) (fun p hp => (HQ2.out p hp).ext (HE2.out.alloc _ _)) HQ3.out (fun p hp => by simp only [List.mem_singleton] at hp; subst hp; exact HFI.out.ext (HE2.out.alloc _ _)) hO' hg'
        case measure => simp [intOf]; omega
      | false =>
        rw [hb, if_neg (by simp), List.append_nil] at hst
        rw [hb] at HHH
        have HST := Lib.hid hst
        have HL := Lib.hid hlt'
        clear hst hb
        go_wp2_with fail
        refine (HHH.out _ (hEw.out.alloc _ _)).mono ?_; rintro e w2 ⟨rfl, hE⟩
        go_wp2_with fail
        go_roundw
        case rel => exact ⟨k + 1, by rw [rows_len]; exact HL.out, by go_num, by rw [HST.out]; exact HO.out.ext (((Ext.refl wr).alloc _ _).trans hE)⟩
        case measure => simp [intOf]; omega
    · have hke : (rows ps).take k = rows ps := List.take_of_length_le (by rw [rows_len]; have := HT.out; omega)
      rw [hke] at hO
      have HO := Lib.hid hO
      clear hke hO
      go_wp2_with fail
      go_ret
      exact HO.out.roP HW.out (HU.out.ext HW.out)
end Go.Proofs.YtfojeajmonnifaaGreatDoor
/- Evaluating a query, of the program: projections. -/
namespace Go.Proofs.YtfojeajmonnifaaGreatDoor
open Go.ChangeShapes Go.WideShapes Go.ChangeAt Go.RowKit

def PjR (S : Nat → Prop) (W1 : World) (es : List X) (ex : List Int) (l : List R) (v i : Value) (wr : World) : Prop := ∃ k : Nat, k ≤ l.length ∧ i = .int .i64 k ∧ OwnQ S W1 wr v (prjL es ex (l.take k))
theorem prj_step (es : List X) (ex : List Int) (l : List R) (k : Nat) (h : k < l.length) : prjL es ex (l.take (k + 1)) = prjL es ex (l.take k) ++ [⟨valL es ex l[k].v, l[k].t⟩] := by
  unfold prjL
  rw [List.take_succ_eq_append_getElem h, List.map_append]
  rfl
theorem prj_len (es : List X) (ex : List Int) (l : List R) : (prjL es ex l).length = l.length := List.length_map _
set_option maxHeartbeats 4000000 in
set_option maxRecDepth 100000 in
theorem prj_prg (S : Nat → Prop) (es : List X) (ex : List Int) (l : List R) (a2 a3 a4 : Option Addr) (n2 n3 n4 c2 c3 c4 : Nat) (ve vx vr : Value) (w : World) (hl : RdG w ve es) (hxx : RdG w vx ex) (hr : RdR S w vr l) (hU : Up S w) (hs : es.length ≤ 1000) (hx : OkX es) (ho : OkRs l) (hll : l.length ≤ 1000000) (he : ex.length ≤ 1000000) :
    Calls Tryz.prog 100 #[eaV ve (.slice a2 n2 c2) (.slice a3 n3 c3) (.slice a4 n4 c4), vx, vr] w (RoP S w (prjL es ex l)) := by
  have HH := Lib.hid (fun (row : List V) vv w' (hE : Ext w w') (hr : RdG w' vv row) (ho : OkR row) => all_prg es ex row a2 a3 a4 n2 n3 n4 c2 c3 c4 ve vx vv w' (hl.ext hE) (hxx.ext hE) hr hs hx ho he)
  obtain ⟨ad, cap, rfl, _, _⟩ := hl.shape
  obtain ⟨xd0, xcap, rfl, _, _⟩ := hxx.shape
  obtain ⟨ps, h1, h2, h3, rfl⟩ := hr
  obtain ⟨bd, bcap, rfl, b1, b2⟩ := h1.shape
  have HP := Lib.hid h1
  have HF := Lib.hid h3
  have HU := Lib.hid hU
  have HO := Lib.hid ho
  have HLL := Lib.hid hll
  clear hl h1 h2 h3 hs hx ho hU hll hxx he
  obtain ⟨n, hn⟩ : ∃ n, n = es.length := ⟨_, rfl⟩
  obtain ⟨u, hu⟩ : ∃ u, u = ex.length := ⟨_, rfl⟩
  obtain ⟨t, ht⟩ : ∃ t, t = ps.length := ⟨_, rfl⟩
  have HT := Lib.hid ht
  rw [← hn, ← hu] at HH ⊢
  rw [← ht] at HP b1 ⊢
  clear hn ht hu
  unfold maxLen at b2
  obtain ⟨W1, hW⟩ : ∃ W1, W1 = w.alloc (.cells #[.slice ad n cap, .slice a2 n2 c2, .slice a3 n3 c3, .slice a4 n4 c4] 124) := ⟨_, rfl⟩
  have HW := Lib.hid (show Ext w W1 by rw [hW]; exact (Ext.refl _).alloc _ _)
  have HBX := Lib.hid (show Bxn w.heap.size [.slice ad n cap, .slice a2 n2 c2, .slice a3 n3 c3, .slice a4 n4 c4] W1 by rw [hW]; exact Bxn.new w _ _)
  have hW' := Lib.hid hW
  clear hW
  go_enter Tryz.func100, Tryz.ntmps100
  go_wp2_with fail
  go_loopw [7, 12] (PjR S W1 es ex (rows ps)) (fun _ i _ => t - (intOf i).toNat)
  case atStart => exact ⟨0, Nat.zero_le _, rfl, by rw [← hW'.out]; exact OwnQ.nil S (Ext.refl _)⟩
  case round =>
    obtain ⟨k, hk, rfl, hO⟩ := hrel
    rw [rows_len] at hk
    have hkt : k ≤ t := by rw [HT.out]; exact hk
    have hEw := Lib.hid (HW.out.trans hO.old)
    have HBr := Lib.hid (HBX.out.ext hO.old)
    by_cases hlt : k < t
    · have hlt' : k < ps.length := by rw [← HT.out]; exact hlt
      have hlr : k < (rows ps).length := by rw [rows_len]; exact hlt'
      obtain ⟨g, o, rfl, d0', d1'⟩ := rd_P HP.out k hlt'
      have d0 := hEw.out.keeps d0'
      have d1 := hEw.out.keeps d1'
      clear d0' d1'
      have hst := prj_step es ex (rows ps) k hlr
      rw [rows_at ps k hlt'] at hst
      have hfi := HF.out ps[k] (List.getElem_mem _)
      have hok := HO.out ps[k].r (List.mem_map_of_mem (List.getElem_mem _))
      have hpl : (prjL es ex ((rows ps).take k)).length ≤ 1000000 := by rw [prj_len, List.length_take]; have := HLL.out; omega
      generalize ps[k] = x at *
      obtain ⟨⟨xa, xn, xc, xb, xm, xd⟩, xr⟩ := x
      simp only [Hd.x, Hd.y] at d0 d1 hfi hst hok
      obtain ⟨w0, hw0⟩ : ∃ w0, w0 = wr.alloc (.cells #[.slice xa xn xc, .slice xb xm xd] 67) := ⟨_, rfl⟩
      have EX := Lib.hid (show Ext wr w0 by rw [hw0]; exact (Ext.refl wr).alloc _ _)
      have HHH := Lib.hid (fun w' (hE : Ext w0 w') => (HH.out xr.v _ w' (hEw.out.trans (EX.out.trans hE)) (hfi.1.1.ext (hEw.out.trans (EX.out.trans hE))) hok).mono (R' := fun e w'' => ∃ v, e = .returned v ∧ OwnG tV.e w0 w'' v (valL es ex xr.v) ∧ Ext w0 w'') (by rintro _ _ ⟨v, rfl, hO⟩; exact ⟨v, rfl, hO.base hE, hE.trans hO.2⟩))
      simp only [Hd.x] at HHH
      have HFI := Lib.hid hfi
      have HST := Lib.hid hst
      have HL := Lib.hid hlt'
      have HPL := Lib.hid hpl
      obtain ⟨vals, hvals⟩ : ∃ vals, vals = valL es ex xr.v := ⟨_, rfl⟩
      rw [← hvals] at HHH HST
      have p0 := ((HBr.out.ext EX.out).2 0 _ rfl).1
      have p1 := ((HBr.out.ext EX.out).2 1 _ rfl).1
      have p2 := ((HBr.out.ext EX.out).2 2 _ rfl).1
      have p3 := ((HBr.out.ext EX.out).2 3 _ rfl).1
      have m0 : w0.cell? ⟨wr.heap.size, 0, none⟩ = some (.slice xa xn xc) := by rw [hw0]; exact al0 _ _ _ _
      have m1 : w0.cell? ⟨wr.heap.size, 1, none⟩ = some (.slice xb xm xd) := by rw [hw0]; exact al1 _ _ _ _
      have hs0 := HBr.out.1
      obtain ⟨qs, hq1, hq2, hq3⟩ := hO
      have hql : qs.length ≤ 1000000 := by have e := rows_len qs; rw [hq3] at e; have := HPL.out; omega
      have HQ1 := Lib.hid hq1
      have HQ2 := Lib.hid hq2
      have HQ3 := Lib.hid hq3
      have HQL := Lib.hid hql
      have HQB := Lib.hid (fun kk hh => hq1.lt kk hh)
      have HQW := Lib.hid (fun kk hh => (hq1.blk kk hh).1)
      have HW0 := Lib.hid hw0
      have HBl := Lib.hid HBX.out.1
      have KP0 := Lib.hid p0
      have KP1 := Lib.hid p1
      have KP2 := Lib.hid p2
      have KP3 := Lib.hid p3
      have KM0 := Lib.hid m0
      have KM1 := Lib.hid m1
      obtain ⟨vn, hvn⟩ : ∃ vn, vn = vals.length := ⟨_, rfl⟩
      have HVN := Lib.hid hvn
      clear hfi hok hpl hst hvals hq1 hq2 hq3 hql hw0 hvn
      go_wp2_with fail
      rw [← HW0.out]
      go_region_held3 (fun w' => w'.cell? ⟨w.heap.size, 0, none⟩ = some (.slice ad n cap) ∧ w'.cell? ⟨w.heap.size, 1, none⟩ = some (.slice a2 n2 c2) ∧ w'.cell? ⟨w.heap.size, 2, none⟩ = some (.slice a3 n3 c3) ∧ w'.cell? ⟨w.heap.size, 3, none⟩ = some (.slice a4 n4 c4) ∧ w'.cell? ⟨wr.heap.size, 0, none⟩ = some (.slice xa xn xc) ∧ w'.cell? ⟨wr.heap.size, 1, none⟩ = some (.slice xb xm xd))
        (first | exact ⟨KP0.out, KP1.out, KP2.out, KP3.out, KM0.out, KM1.out⟩ | exact ⟨f0, f1, f2, f3, f4, f5⟩ | exact ⟨r0, r1, r2, r3, r4, r5⟩ | go_keep)
        (first
          | (go_at_call 136; refine (HHH.out _ ?_).mono ?_; (first | exact Ext.refl _ | exact (Ext.refl _).drew); rintro e w3 ⟨v3, rfl, hO3, e3⟩; obtain ⟨a3', c3', hv3, _, _⟩ := hO3.rd.shape; rw [← HVN.out] at hv3; subst hv3; have f0 := e3.keeps KP0.out; have f1 := e3.keeps KP1.out; have f2 := e3.keeps KP2.out; have f3 := e3.keeps KP3.out; have f4 := e3.keeps KM0.out; have f5 := e3.keeps KM1.out; have HO3 := Lib.hid hO3; have HE3 := Lib.hid e3; clear hO3 e3)
          | (refine step_appG tP rfl _ _ rfl W1 _ qs rfl ?a1 _ [⟨⟨a3', vn, c3', xb, xm, xd⟩, ⟨vals, xr.t⟩⟩] rfl ?a2 ?a3 ?_; (have z1 := HQ1.out.ext (EX.out.trans (HE3.out.alloc #[.slice a3' vn c3', .slice xb xm xd] 67)); case a1 => exact z1); (have z2 := rd_litG w3 [(⟨⟨a3', vn, c3', xb, xm, xd⟩, ⟨vals, xr.t⟩⟩ : P)] #[.slice a3' vn c3', .slice xb xm xd] 67 _ 1 rfl rfl (by simp) rfl; case a2 => exact z2); (case a3 => have := HQL.out; simp; omega); intro v5 w5 hO5 hg5; have hx1 := (Ext.refl w3).alloc #[.slice a3' vn c3', .slice xb xm xd] 67; have r0 := grow_cell hg5 (hx1.keeps f0) (fun kk hh => by have := HQW.out kk hh; have := HBl.out; omega); have r1 := grow_cell hg5 (hx1.keeps f1) (fun kk hh => by have := HQW.out kk hh; have := HBl.out; omega); have r2 := grow_cell hg5 (hx1.keeps f2) (fun kk hh => by have := HQW.out kk hh; have := HBl.out; omega); have r3 := grow_cell hg5 (hx1.keeps f3) (fun kk hh => by have := HQW.out kk hh; have := HBl.out; omega); have r4 := grow_cell hg5 (hx1.keeps f4) (fun kk hh => by have := HQB.out kk hh; omega); have r5 := grow_cell hg5 (hx1.keeps f5) (fun kk hh => by have := HQB.out kk hh; omega)))
      all_goals
        go_wp2_with fail
        go_roundw
        case rel =>
          refine ⟨k + 1, by rw [rows_len]; exact HL.out, by go_num, ?_⟩
          rw [HST.out]
          have hx1 := (Ext.refl w3).alloc #[.slice a3' vn c3', .slice xb xm xd] 67
          have hx2 := EX.out.trans (HE3.out.trans hx1)
          refine OwnQ.app (qs := [⟨⟨a3', vn, c3', xb, xm, xd⟩, ⟨vals, xr.t⟩⟩]) (HQ1.out.ext hx2) (fun p hp => (HQ2.out p hp).ext hx2) HQ3.out (fun p hp => ?_) hO5 hg5
          simp only [List.mem_singleton] at hp; subst hp
          have hl3 := HFI.out.1.2.ext (hEw.out.trans hx2)
          have hof : Off tP.e W1 (w3.alloc (.cells #[.slice a3' vn c3', .slice xb xm xd] 67)) (.slice xb xm xd) := off_old (HFI.out.1.2.ext HW.out)
          exact ⟨⟨⟨HO3.out.rd.ext hx1, hl3⟩, (HO3.out.ext hx1).off (by decide), hof⟩, HO3.out.inn (HU.out.ext (hEw.out.trans EX.out)), HFI.out.2.2⟩
        case measure => simp [intOf]; omega
    · have hke : (rows ps).take k = rows ps := List.take_of_length_le (by rw [rows_len]; have := HT.out; omega)
      rw [hke] at hO
      have HO := Lib.hid hO
      clear hke hO
      go_wp2_with fail
      go_ret
      exact HO.out.roP HW.out (HU.out.ext HW.out)
end Go.Proofs.YtfojeajmonnifaaGreatDoor
/- Two lineages merged: the program's MergeLineage. -/
namespace Go.Proofs.YtfojeajmonnifaaGreatDoor
open Go.ChangeShapes Go.WideShapes Go.ChangeAt Go.RowKit

/-- two lineages merged -/
def mlL (a b : List Int) : List Int := Lib.compact ((a ++ b).mergeSort fun x y => decide (x ≤ y))
theorem mlL_asc (a b : List Int) : Asc (mlL a b) := (sort_cut (a ++ b)).1
theorem mlL_mem (a b : List Int) (c : Int) : c ∈ mlL a b ↔ c ∈ a ∨ c ∈ b := ((sort_cut (a ++ b)).2 c).trans List.mem_append
theorem mlL_len (a b : List Int) : (mlL a b).length ≤ a.length + b.length := Nat.le_trans (comp_len _) (by rw [List.length_mergeSort, List.length_append]; exact Nat.le_refl _)
theorem mlL_comm (a b : List Int) : mlL b a = mlL a b := asc_unique _ _ (mlL_asc _ _) (mlL_asc _ _) fun c => by rw [mlL_mem, mlL_mem]; exact Or.comm
theorem mlL_assoc (a b c : List Int) : mlL a (mlL b c) = mlL (mlL a b) c := asc_unique _ _ (mlL_asc _ _) (mlL_asc _ _) fun x => by rw [mlL_mem, mlL_mem, mlL_mem, mlL_mem]; exact or_assoc.symm
theorem mlL_idem (a b : List Int) : mlL (mlL a b) (mlL a b) = mlL a b := asc_unique _ _ (mlL_asc _ _) (mlL_asc _ _) fun x => by rw [mlL_mem]; exact or_self_iff
theorem mlq (a b : List Int) (va vb : Value) (w : World) (ha : RdG w va a) (hb : RdG w vb b) (hl : a.length + b.length ≤ 100000000) : Calls Tryz.prog 34 #[va, vb] w fun e w' => ∃ v, e = .returned v ∧ RdG w' v (mlL a b) ∧ Ext w w' :=
  (ml_prg a b va vb w ha hb hl).mono fun _ _ ⟨v, cs, he, hr, hE, hA, hM, _⟩ => ⟨v, he, by
    rw [show mlL a b = cs from asc_unique _ _ (mlL_asc a b) hA fun c => by rw [mlL_mem, hM]]
    exact hr, hE⟩
end Go.Proofs.YtfojeajmonnifaaGreatDoor
/- MergeLineage, of the program: what it hands back is its own. -/
namespace Go.Proofs.YtfojeajmonnifaaGreatDoor
open Go.ChangeShapes Go.WideShapes Go.ChangeAt Go.RowKit

theorem OwnG.take {α : Type} [Enc α] {e : TypeId} {W w : World} {ad : Option Addr} {n cap : Nat} {l : List α} (h : OwnG e W w (.slice ad n cap) l) (k : Nat) (hk : k ≤ l.length) : OwnG e W w (.slice ad k cap) (l.take k) := by
  have hl : (l.take k).length = k := by rw [List.length_take]; omega
  refine ⟨⟨?_, ?_⟩, h.2⟩
  · rw [cellsG_len, hl]
  · rcases h.1.2 with ⟨e1, h0⟩ | ⟨g, cap', cur, e1, hb, hg, hnc, hcm, hcs, htake⟩
    · simp only [Value.slice.injEq] at e1
      obtain ⟨rfl, rfl, rfl⟩ := e1
      have hl0 : k = 0 := by omega
      subst hl0
      exact .inl ⟨rfl, by simp⟩
    · simp only [Value.slice.injEq] at e1
      obtain ⟨rfl, rfl, rfl⟩ := e1
      refine .inr ⟨g, cap, cur, by rw [hl], hb, hg, by rw [hl]; omega, hcm, hcs, ?_⟩
      rw [hl, ← cellsG_take l k hk, ← htake, List.take_take]
      congr 1
      have : k * Enc.sz α ≤ l.length * Enc.sz α := Nat.mul_le_mul_right _ hk
      omega
theorem cut_O (e : TypeId) (W w : World) (v : Value) (l : List Int) (hO : OwnG e W w v l) (hlen : l.length ≤ 100000000) :
    Calls Tryz.prog 64 #[v] w fun e' w' => ∃ v', e' = .returned v' ∧ OwnG e W w' v' (Lib.compact l) := by
  rcases hO.1.2 with ⟨rfl, h0⟩ | ⟨g, cap, cur, rfl, hb, hg, hnc, hcm, hcs, htake⟩
  · refine (Tryz.slices_Compact_int_empty none 0 w).mono ?_
    rintro e w' ⟨rfl, rfl⟩
    obtain rfl : l = [] := List.eq_nil_of_length_eq_zero h0
    exact ⟨_, rfl, OwnG.nil _ _ _ hO.2⟩
  · refine (Tryz.slices_Compact_int g 0 cap l w (holdsI hO) (by omega) hnc).mono ?_
    rintro e w' ⟨rfl, q, rfl⟩
    have hle : (Lib.compact l).length ≤ l.length := by unfold Lib.compact Lib.compactUpTo; rw [List.length_map]; exact Nat.le_trans (List.length_filter_le _ _) (by simp)
    have hl : (Lib.compact l ++ List.replicate (l.length - (Lib.compact l).length) 0).length = l.length := by simp; omega
    have := own_put0 hO hl q
    refine ⟨_, rfl, ?_⟩
    have h2 := OwnG.take this (Lib.compact l).length (by rw [hl]; exact hle)
    rw [List.take_left'] at h2
    · exact h2
    · rfl
/-- two lineages merged -/
theorem ml_own (a b : List Int) (va vb : Value) (w : World) (ha : RdG w va a) (hb : RdG w vb b) (hl : a.length + b.length ≤ 100000000) : Calls Tryz.prog 34 #[va, vb] w fun e w' => ∃ v, e = .returned v ∧ OwnG tI.e w w' v (linL (a ++ b)) := by
  have HA := Lib.hid ha
  have HB := Lib.hid hb
  have HL := Lib.hid hl
  obtain ⟨ada, capa, rfl, _⟩ := ha.shape
  obtain ⟨adb, capb, rfl, _⟩ := hb.shape
  clear ha hb hl
  go_enter Tryz.func34, Tryz.ntmps34
  go_wp2_with fail
  refine (concat_I a b _ _ _ _ (HA.out.ext ((Ext.refl _).alloc _ _)) (HB.out.ext ((Ext.refl _).alloc _ _)) (al0 _ _ _ _) (al1 _ _ _ _) HL.out).mono ?_
  rintro e w1 ⟨v1, rfl, hO⟩
  have hlen : (a ++ b).length ≤ 100000000 := by rw [List.length_append]; exact HL.out
  have HO := Lib.hid hO
  have HLN := Lib.hid hlen
  clear hO hlen
  go_wp2_with fail
  refine (sort_I tI.e _ w1 v1 (a ++ b) HO.out HLN.out).mono ?_
  rintro e w2 ⟨rfl, hO2⟩
  have HO2 := Lib.hid hO2
  clear hO2
  go_wp2_with fail
  refine (cut_O tI.e _ w2 v1 _ HO2.out (by rw [List.length_mergeSort]; exact HLN.out)).mono ?_
  rintro e w3 ⟨v3, rfl, hR⟩
  have HR := Lib.hid hR
  clear hR
  go_wp2_with fail
  go_ret
  exact ⟨_, rfl, HR.out.base ((Ext.refl w).alloc _ _)⟩
end Go.Proofs.YtfojeajmonnifaaGreatDoor
