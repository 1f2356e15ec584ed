/- Timeslice, by the program and by the reference. -/
import Derived.Test.YtnckdopphimgoaaGreatZz14
import Derived.Test.YtnckdopphimgoaaGreatZz18
import Derived.Test.YtnckdopphimgoaaGreatZz30
import Derived.Test.YtnckdopphimgoaaGreatZz34
import Derived.Test.YtnckdopphimgoaaGreatZz36
import Derived.Test.YtnckdopphimgoaaGreatZz43
namespace Go.Proofs.YtnckdopphimgoaaGreat
open Go.ChangeShapes Go.WideShapes Go.ChangeAt Go.RowKit

def incT (t : Int) (p : TP) : Bool := incB p.a p.b t
theorem rows_slice (ps : List TP) (t : Int) : sortR (rows ((ps.filter (incT t)).map TP.row)) = sl (tus ps) t := by
  unfold sl tus rows
  rw [List.filter_map, List.map_map, List.map_map]
  rfl
def TlR (w : World) (ps : List TP) (t : Int) (u i : Value) (wr : World) : Prop := ∃ k : Nat, k ≤ ps.length ∧ i = .int .i64 k ∧ OwnG tP.e w wr u (((ps.take k).filter (incT t)).map TP.row)
/-- the timeslice -/
def TlP (ps : List TP) (t : Int) (w : World) (e : Ending) (w' : World) : Prop := ∃ v' qs, e = .returned v' ∧ RdG w' v' qs ∧ RdAll w' qs ∧ rows qs = sl (tus ps) t ∧ Ext w w'
set_option maxHeartbeats 8000000 in
set_option maxRecDepth 100000 in
theorem tslice_prg (ps : List TP) (t : Int) (v : Value) (w : World) (h : RdG w v ps) (hI : RdTs w ps) (hl : ps.length ≤ 100000) (hs : SmT ps) : Calls Tryz.prog 12 #[v, .int .i64 t] w (TlP ps t w) := by
  obtain ⟨ad, cap, rfl, h1, h2⟩ := h.shape
  have H := Lib.hid h
  have HI := Lib.hid hI
  have HS := Lib.hid hs
  clear h hI hs
  unfold maxLen at h2
  obtain ⟨n, hn⟩ : ∃ n, n = ps.length := ⟨_, rfl⟩
  have HN := Lib.hid hn
  rw [← hn] at H h1 hl ⊢
  clear hn
  go_enter Tryz.func12, Tryz.ntmps12
  go_wp2_with fail
  go_loopw [5, 10] (TlR w ps t) (fun _ i _ => n - (intOf i).toNat)
  case atStart => exact ⟨0, Nat.zero_le _, rfl, OwnG.nil _ _ _ (Ext.refl _)⟩
  case round =>
    obtain ⟨k, hk, rfl, hO⟩ := hrel
    have hkn : k ≤ n := by rw [HN.out]; exact hk
    by_cases hlt : k < n
    · have hlt' : k < ps.length := by rw [← HN.out]; exact hlt
      obtain ⟨g, o, rfl, c0', c1', c2', c3'⟩ := rd_T H.out k hlt'
      have c0 := hO.2.keeps c0'
      have c1 := hO.2.keeps c1'
      have c2 := hO.2.keeps c2'
      have c3 := hO.2.keeps c3'
      clear c0' c1' c2' c3'
      have HY := Lib.hid (filt_yes (f := incT t) hlt')
      have HZ := Lib.hid (filt_no (f := incT t) hlt')
      have hfl : (((ps.take k).filter (incT t)).map TP.row).length ≤ 1000000 := by rw [List.length_map]; have := filt_len (incT t) ps k; have := HN.out; omega
      have hi0 : (0 : Int) ≤ (k : Int) := by omega
      have hi1 : (k : Int) < (n : Int) := by omega
      have hro := fun w2 => rowOf_gw ps[k] w2
      generalize ps[k] = x at *
      have hx : incT t x = incB x.a x.b t := rfl
      obtain ⟨⟨xa, xn, xc, xb, xm, xd⟩, xr, pa, pb⟩ := x
      simp only [Hd.x, Hd.y, tv] at c0 c1 c2 c3 hx hro
      obtain ⟨b0, b1, b2, b3⟩ := box4 wr (.slice xa xn xc) (.int .i64 pa) (.int .i64 pb) (.slice xb xm xd) 42
      have hE0 : Ext wr (wr.alloc (.cells #[.slice xa xn xc, .int .i64 pa, .int .i64 pb, .slice xb xm xd] 42)) := (Ext.refl wr).alloc _ _
      have hic := fun w2 => inc_per pa pb t w2
      cases hb : incB pa pb t with
      | true =>
        rw [hb] at hic
        have HX := Lib.hid (show ((ps.take (k + 1)).filter (incT t)).map TP.row = ((ps.take k).filter (incT t)).map TP.row ++ [(⟨⟨xa, xn, xc, xb, xm, xd⟩, xr⟩ : P)] by rw [HY.out (by rw [hx, hb]), List.map_append]; rfl)
        have HIC := Lib.hid hic
        have HRO := Lib.hid hro
        have HO := Lib.hid hO
        have HFL := Lib.hid hfl
        clear HY HZ hb hx hO hfl hic hro
        generalize ((ps.take k).filter (incT t)).map TP.row = os at *
        go_wp2_with fail
        generalize wr.alloc (.cells #[.slice xa xn xc, .int .i64 pa, .int .i64 pb, .slice xb xm xd] 42) = w0 at *
        refine (HIC.out _).mono ?_; rintro e w1 ⟨rfl, hg⟩
        have hE1 := ext_of_grown hg
        have d0 := hE1.keeps b0
        have d1 := hE1.keeps b1
        have d2 := hE1.keeps b2
        have d3 := hE1.keeps b3
        have hz : wr.heap.size < w1.heap.size := World.block_lt_of_cell? _ _ d0
        have HE := Lib.hid (hE0.trans hE1)
        clear b0 b1 b2 b3 c0 c1 c2 c3 hg hE0 hE1
        go_wp2_with fail
        refine (HRO.out _).mono ?_; rintro e w2 ⟨rfl, hg2⟩
        have HE2 := Lib.hid (HE.out.trans hg2.ext)
        clear d0 d1 d2 d3 hg2
        go_wp2_with (at_builtin; refine appG tP rfl _ _ rfl w _ os rfl ?a1 _ [(⟨⟨xa, xn, xc, xb, xm, xd⟩, xr⟩ : P)] rfl ?a2 ?a3 ?_; (case a1 => exact HO.out.ext (HE2.out.trans ((Ext.refl w2).alloc _ _))); (case a2 => exact rd_litG _ [(⟨⟨xa, xn, xc, xb, xm, xd⟩, xr⟩ : P)] #[.slice xa xn xc, .slice xb xm xd] 36 _ 1 rfl rfl (by simp) rfl); (case a3 => have := HFL.out; simp; omega); intro v5 w5 hO5 hg5)
        go_roundw
        case rel => exact ⟨k + 1, hlt', by go_num, by rw [HX.out]; exact hO5⟩
        case measure => simp [intOf]; omega
      | false =>
        rw [hb] at hic
        have HX := Lib.hid (HZ.out (by rw [hx, hb]))
        have HIC := Lib.hid hic
        have HO := Lib.hid hO
        clear HY HZ hb hx hO hfl hic hro
        go_wp2_with fail
        refine (HIC.out _).mono ?_; rintro e w1 ⟨rfl, hg⟩
        have HE := Lib.hid (hE0.trans (ext_of_grown hg))
        clear b0 b1 b2 b3 c0 c1 c2 c3 hg hE0
        go_wp2_with fail
        go_roundw
        case rel => exact ⟨k + 1, hlt', by go_num, by rw [HX.out]; exact HO.out.ext HE.out⟩
        case measure => simp [intOf]; omega
    · have hke : k = n := by omega
      have hall : ps.take k = ps := by rw [List.take_of_length_le]; rw [← HN.out, hke]; exact Nat.le_refl _
      rw [hall] at hO
      have HO := Lib.hid hO
      have HLE := Lib.hid (show ((ps.filter (incT t)).map TP.row).length ≤ 1000000 by rw [List.length_map]; have := List.length_filter_le (incT t) ps; have := HN.out; omega)
      have HIR := Lib.hid (show RdAll wr ((ps.filter (incT t)).map TP.row) from fun p hp => by
        obtain ⟨q, hq, rfl⟩ := List.mem_map.1 hp
        exact ((HI.out q (List.mem_filter.1 hq).1).ext hO.2).row)
      have HSR := Lib.hid (show ∀ p ∈ (ps.filter (incT t)).map TP.row, p.r.v.length ≤ 1000000 ∧ p.r.t.length ≤ 1000000 from fun p hp => by
        obtain ⟨q, hq, rfl⟩ := List.mem_map.1 hp
        exact HS.out q (List.mem_filter.1 hq).1)
      clear hO hall
      go_wp2_with fail
      refine (sort_prg _ _ wr HO.out.rd HIR.out HLE.out HSR.out).mono ?_; rintro e w2 ⟨v2, qs, rfl, q1, q2, q3, q4⟩
      have HQ := Lib.hid (And.intro q1 (And.intro q2 (And.intro q3 q4)))
      clear q1 q2 q3 q4
      go_wp2_with fail
      go_ret
      exact ⟨_, qs, rfl, HQ.out.1, HQ.out.2.1, by rw [HQ.out.2.2.1, rows_slice], HO.out.2.trans HQ.out.2.2.2⟩
end Go.Proofs.YtnckdopphimgoaaGreat
/- The program's Multiplicity. -/
namespace Go.Proofs.YtnckdopphimgoaaGreat
open Go.ChangeShapes Go.WideShapes Go.ChangeAt Go.RowKit

theorem cnt_step (l : List R) (k : Nat) (h : k < l.length) (v : List V) : cnt (l.take (k + 1)) v = cnt (l.take k) v + (if l[k].v = v then 1 else 0) := by
  rw [List.take_succ_eq_append_getElem h, cnt_app, cnt_cons]; simp [cnt]
def MuR (w : World) (l : List R) (v : List V) (c i : Value) (wr : World) : Prop := ∃ k : Nat, k ≤ l.length ∧ i = .int .i64 k ∧ c = .int .i64 (cnt (l.take k) v : Nat) ∧ Ext w wr
end Go.Proofs.YtnckdopphimgoaaGreat
/- The reference's Multiplicity. -/
namespace Go.Proofs.YtnckdopphimgoaaGreat
open Go.ChangeShapes Go.WideShapes Go.ChangeAt Go.RowKit

set_option maxHeartbeats 4000000 in
set_option maxRecDepth 100000 in
theorem mult_ref (ps : List P) (vl : List V) (v vv : Value) (w : World) (ha : RdG w v ps) (ia : RdAll w ps) (hv : RdG w vv vl) :
    Calls Tryz.prog 13 #[v, vv] w fun e w' => e = .returned (.int .i64 (cnt (rows ps) vl : Nat)) ∧ Ext w w' := by
  obtain ⟨ad, cap, rfl, h1, h2⟩ := ha.shape
  obtain ⟨bd, bcap, rfl, i1, i2⟩ := hv.shape
  have HA := Lib.hid ha
  have IA := Lib.hid ia
  have HB := Lib.hid hv
  clear ha ia hv
  obtain ⟨n, hn⟩ : ∃ n, n = ps.length := ⟨_, rfl⟩
  obtain ⟨m, hm⟩ : ∃ m, m = vl.length := ⟨_, rfl⟩
  have HN := Lib.hid hn
  rw [← hn] at h1 HA ⊢
  rw [← hm] at i1 HB ⊢
  clear hn hm
  unfold maxLen at h2 i2
  go_enter Tryz.func13, Tryz.ntmps13
  go_wp2_with fail
  go_loopw [5, 6] (MuR w (rows ps) vl) (fun _ i _ => n - (intOf i).toNat)
  case atStart => exact ⟨0, Nat.zero_le _, rfl, by simp [cnt], Ext.refl _⟩
  case round =>
    obtain ⟨k, hk, rfl, rfl, hE⟩ := hrel
    rw [rows_len] at hk
    have hkn : k ≤ n := by rw [HN.out]; exact hk
    have hcb : cnt ((rows ps).take k) vl ≤ k := Nat.le_trans (cnt_le _ _) (by rw [List.length_take]; exact Nat.min_le_left _ _)
    by_cases hlt : k < n
    · have hlt' : k < ps.length := by rw [← HN.out]; exact hlt
      have hst := cnt_step (rows ps) k (by rw [rows_len]; exact hlt') vl
      rw [rows_at ps k hlt'] at hst
      obtain ⟨g, o, rfl, c0', c1'⟩ := rd_P HA.out k hlt'
      have c0 := hE.keeps c0'
      have c1 := hE.keeps c1'
      have hix := IA.out ps[k] (List.getElem_mem _)
      have hi0 : (0 : Int) ≤ (k : Int) := Int.natCast_nonneg _
      have hi1 : (k : Int) < (n : Int) := by omega
      clear c0' c1'
      generalize ps[k] = x at *
      obtain ⟨⟨xa, xn, xc, xb, xm, xd⟩, xr⟩ := x
      simp only [Hd.x, Hd.y] at c0 c1 hst
      have hcv := fun w2 (hg : Ext w w2) => crowsG_ref xr.v vl _ _ w2 (hix.1.ext hg) (HB.out.ext hg)
      clear hix
      simp only [Hd.x] at hcv
      by_cases hz : xr.v = vl
      · rw [if_pos hz] at hst
        have HST := Lib.hid hst
        have hc0 : cmpR xr.v vl = 0 := (cr_ord.zero _ _).2 hz
        rw [hc0] at hcv
        have HV := Lib.hid hcv
        clear hst hcv hz hc0
        generalize cnt ((rows ps).take k) vl = c at *
        go_wp2_with fail
        refine (HV.out _ hE).mono ?_; rintro e w1 ⟨rfl, hg⟩
        go_wp2_with fail
        go_roundw
        case rel => exact ⟨k + 1, by rw [rows_len]; exact hlt', by go_num, by rw [HST.out]; go_num, hE.trans hg⟩
        case measure => simp [intOf]; omega
      · rw [if_neg hz] at hst
        have HST := Lib.hid hst
        have hz0 : ¬ cmpR xr.v vl = 0 := fun e => hz ((cr_ord.zero _ _).1 e)
        have hz1 : (cmpR xr.v vl == 0) = false := by simpa using hz0
        have HV := Lib.hid hcv
        clear hst hcv hz
        generalize cnt ((rows ps).take k) vl = c at *
        go_wp2_with fail
        refine (HV.out _ hE).mono ?_; rintro e w1 ⟨rfl, hg⟩
        go_wp2_with fail
        go_roundw
        case rel => exact ⟨k + 1, by rw [rows_len]; exact hlt', by go_num, by rw [HST.out]; rfl, hE.trans hg⟩
        case measure => simp [intOf]; omega
    · have hall : (rows ps).take k = rows ps := by rw [List.take_of_length_le]; rw [rows_len, ← HN.out]; omega
      have HC := Lib.hid (show (cnt ((rows ps).take k) vl : Int) = (cnt (rows ps) vl : Int) by rw [hall])
      clear hall
      generalize cnt ((rows ps).take k) vl = c at hcb HC ⊢
      go_wp2_with fail
      go_ret
      exact ⟨ret_int HC.out, hE⟩
end Go.Proofs.YtnckdopphimgoaaGreat
/- Slices of rows, of numbers and of five numbers, «as» arguments. -/
namespace Go.Proofs.YtnckdopphimgoaaGreat
open Go.ChangeShapes Go.WideShapes Go.ChangeAt Go.RowKit Go.Joins

section
variable {H : Type} {enc : TypeId × Value → H} {w : World} {base : Nat} {held : Bool}
theorem el8_I (fuel : Nat) (cs : List Value) (y : DataW H × List MemPlace) (h : DataW.trod enc Tryz.prog w base (fun _ => true) held fuel 3 cs = some y) : ∃ x : Int, cs = Enc.cells x ∧ True := by
  obtain ⟨a, e, _, _⟩ := DataW.trod_int Tryz.underlying3 h
  exact ⟨a, e, trivial⟩
set_option maxRecDepth 100000 in
theorem el8_V (fuel : Nat) (cs : List Value) (y : DataW H × List MemPlace) (hl : cs.length = 3) (h : DataW.trod enc Tryz.prog w base (fun _ => true) held fuel 54 cs = some y) : ∃ x : V, cs = Enc.cells x ∧ True := by
  obtain ⟨xs, k, _, _, _, hxl, hff⟩ := DataW.trod_struct Tryz.underlying54 h
  have hxl3 : xs.length = 3 := hxl
  match cs, hl with
  | [v0, v1, v2], _ =>
    have g0 := hff 0 _ rfl
    have g1 := hff 1 _ rfl
    have g2 := hff 2 _ rfl
    obtain ⟨y0, q0⟩ : ∃ y, xs[0]? = some y := ⟨_, List.getElem?_eq_getElem (by omega)⟩
    obtain ⟨y1, q1⟩ : ∃ y, xs[1]? = some y := ⟨_, List.getElem?_eq_getElem (by omega)⟩
    obtain ⟨y2, q2⟩ : ∃ y, xs[2]? = some y := ⟨_, List.getElem?_eq_getElem (by omega)⟩
    rw [q0] at g0
    rw [q1] at g1
    rw [q2] at g2
    have k0 : Tryz.prog.cellsOf 3 = 1 := by kernel_rfl
    have k1 : Tryz.prog.cellsOf 2 = 1 := by kernel_rfl
    have k2 : Tryz.prog.cellsOf 9 = 1 := by kernel_rfl
    have h0' : DataW.trod enc Tryz.prog w base (fun _ => true) held k 3 (([v0, v1, v2].drop 0).take (Tryz.prog.cellsOf 3)) = some y0 := g0
    rw [k0] at h0'
    have p0 : DataW.trod enc Tryz.prog w base (fun _ => true) held k 3 [v0] = some y0 := h0'
    have h1' : DataW.trod enc Tryz.prog w base (fun _ => true) held k 2 (([v0, v1, v2].drop 1).take (Tryz.prog.cellsOf 2)) = some y1 := g1
    rw [k1] at h1'
    have p1 : DataW.trod enc Tryz.prog w base (fun _ => true) held k 2 [v1] = some y1 := h1'
    have h2' : DataW.trod enc Tryz.prog w base (fun _ => true) held k 9 (([v0, v1, v2].drop 2).take (Tryz.prog.cellsOf 9)) = some y2 := g2
    rw [k2] at h2'
    have p2 : DataW.trod enc Tryz.prog w base (fun _ => true) held k 9 [v2] = some y2 := h2'
    obtain ⟨z0, f0, _, _⟩ := DataW.trod_int Tryz.underlying3 p0
    obtain ⟨z1, f1, _, _⟩ := DataW.trod_int Tryz.underlying2 p1
    obtain ⟨z2, f2, _, _⟩ := DataW.trod_string Tryz.underlying9 p2
    obtain rfl := List.cons.inj f0 |>.1
    obtain rfl := List.cons.inj f1 |>.1
    obtain rfl := List.cons.inj f2 |>.1
    exact ⟨⟨z0, z1, z2.data.toList⟩, by simp [Enc.cells], trivial⟩
set_option maxRecDepth 100000 in
theorem el8_P (fuel : Nat) (cs : List Value) (y : DataW H × List MemPlace) (hl : cs.length = 2) (h : DataW.trod enc Tryz.prog w base (fun _ => true) held fuel 36 cs = some y) : ∃ x : P, cs = Enc.cells x ∧ RdRow w x := by
  obtain ⟨xs, k, _, _, _, hxl, hff⟩ := DataW.trod_struct Tryz.underlying36 h
  have hxl2 : xs.length = 2 := hxl
  match cs, hl with
  | [v0, v1], _ =>
    have g0 := hff 0 _ rfl
    have g1 := hff 1 _ rfl
    obtain ⟨y0, q0⟩ : ∃ y, xs[0]? = some y := ⟨_, List.getElem?_eq_getElem (by omega)⟩
    obtain ⟨y1, q1⟩ : ∃ y, xs[1]? = some y := ⟨_, List.getElem?_eq_getElem (by omega)⟩
    rw [q0] at g0
    rw [q1] at g1
    have k0 : Tryz.prog.cellsOf 33 = 1 := by kernel_rfl
    have k1 : Tryz.prog.cellsOf 34 = 1 := by kernel_rfl
    have h0' : DataW.trod enc Tryz.prog w base (fun _ => true) held k 33 (([v0, v1].drop 0).take (Tryz.prog.cellsOf 33)) = some y0 := g0
    rw [k0] at h0'
    have p0 : DataW.trod enc Tryz.prog w base (fun _ => true) held k 33 [v0] = some y0 := h0'
    have h1' : DataW.trod enc Tryz.prog w base (fun _ => true) held k 34 (([v0, v1].drop 1).take (Tryz.prog.cellsOf 34)) = some y1 := g1
    rw [k1] at h1'
    have p1 : DataW.trod enc Tryz.prog w base (fun _ => true) held k 34 [v1] = some y1 := h1'
    obtain ⟨u0, l0, f0, r0, _⟩ := open_GT (fun _ : V => True) Tryz.underlying33 (by kernel_rfl) (fun f cs y hl => el8_V f cs y hl) p0
    obtain ⟨u1, l1, f1, r1, _⟩ := open_GT (fun _ : Int => True) Tryz.underlying34 (by kernel_rfl) (fun f cs y _ => el8_I f cs y) p1
    obtain rfl := List.cons.inj f0 |>.1
    obtain rfl := List.cons.inj f1 |>.1
    obtain ⟨a0, c0, rfl, _, _⟩ := r0.shape
    obtain ⟨a1, c1, rfl, _, _⟩ := r1.shape
    exact ⟨⟨⟨a0, l0.length, c0, a1, l1.length, c1⟩, ⟨l0, l1⟩⟩, rfl, r0, r1⟩
set_option maxRecDepth 100000 in
theorem el8_F (fuel : Nat) (cs : List Value) (y : DataW H × List MemPlace) (hl : cs.length = 5) (h : DataW.trod enc Tryz.prog w base (fun _ => true) held fuel 49 cs = some y) : ∃ x : Five, cs = Enc.cells x ∧ x.ok := by
  obtain ⟨xs, k, _, _, _, hxl, hff⟩ := DataW.trod_array Tryz.underlying49 h
  have k0 : Tryz.prog.cellsOf 29 = 1 := by kernel_rfl
  rw [k0] at hff
  match cs, hl with
  | [v0, v1, v2, v3, v4], _ =>
    have one : ∀ i v, i < 5 → (([v0, v1, v2, v3, v4].drop (i * 1)).take 1) = [v] → ∃ z : Int, v = .int .u16 z ∧ 0 ≤ z ∧ z ≤ 65535 := by
      intro i v hi hv
      have g := hff i hi
      rw [hv] at g
      obtain ⟨yy, q⟩ : ∃ y, xs[i]? = some y := ⟨_, List.getElem?_eq_getElem (by omega)⟩
      rw [q] at g
      obtain ⟨z, f, _, wz⟩ := DataW.trod_int Tryz.underlying29 g
      have h1 : IntKind.u16.min = 0 := by decide
      have h2 : IntKind.u16.max = 65535 := by decide
      simp [Lit.wf] at wz
      exact ⟨z, (List.cons.inj f).1, by omega, by omega⟩
    obtain ⟨z0, rfl, b0⟩ := one 0 _ (by decide) rfl
    obtain ⟨z1, rfl, b1⟩ := one 1 _ (by decide) rfl
    obtain ⟨z2, rfl, b2⟩ := one 2 _ (by decide) rfl
    obtain ⟨z3, rfl, b3⟩ := one 3 _ (by decide) rfl
    obtain ⟨z4, rfl, b4⟩ := one 4 _ (by decide) rfl
    exact ⟨⟨z0, z1, z2, z3, z4⟩, rfl, b0, b1, b2, b3, b4⟩
set_option maxRecDepth 100000 in
theorem open_rows {r : Reach} {b0 : Nat} {v : Value} {d : DataW H} {p : List MemPlace} (hv : Value.okWide Tryz.prog w r b0 31 v) (h : DataW.Trod enc Tryz.prog w base (fun _ => true) held 31 v d p) : ∃ l : List P, RdG w v l ∧ RdAll w l :=
  open_G (RdRow w) Tryz.underlying31 (by kernel_rfl) (fun f cs y hl => el8_P f cs y hl) hv h
set_option maxRecDepth 100000 in
theorem open_nums {r : Reach} {b0 : Nat} {v : Value} {d : DataW H} {p : List MemPlace} (hv : Value.okWide Tryz.prog w r b0 34 v) (h : DataW.Trod enc Tryz.prog w base (fun _ => true) held 34 v d p) : ∃ l : List Int, RdG w v l :=
  let ⟨l, h1, _⟩ := open_G (fun _ : Int => True) Tryz.underlying34 (by kernel_rfl) (fun f cs y _ => el8_I f cs y) hv h
  ⟨l, h1⟩
set_option maxRecDepth 100000 in
theorem open_fives {r : Reach} {b0 : Nat} {v : Value} {d : DataW H} {p : List MemPlace} (hv : Value.okWide Tryz.prog w r b0 28 v) (h : DataW.Trod enc Tryz.prog w base (fun _ => true) held 28 v d p) : ∃ l : List Five, RdG w v l ∧ ∀ x ∈ l, x.ok :=
  open_G Five.ok Tryz.underlying28 (by kernel_rfl) (fun f cs y hl => el8_F f cs y hl) hv h
end
end Go.Proofs.YtnckdopphimgoaaGreat
