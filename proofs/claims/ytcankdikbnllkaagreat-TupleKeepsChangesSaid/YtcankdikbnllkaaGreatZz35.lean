/- Timeslice, by the program and by the reference. -/
import Derived.Test.YtcankdikbnllkaaGreatZz09
import Derived.Test.YtcankdikbnllkaaGreatZz10
import Derived.Test.YtcankdikbnllkaaGreatZz22
import Derived.Test.YtcankdikbnllkaaGreatZz30
import Derived.Test.YtcankdikbnllkaaGreatZz32
import Derived.Test.YtcankdikbnllkaaGreatZz34
namespace Go.Proofs.YtcankdikbnllkaaGreat
open Go.ChangeShapes Go.WideShapes Go.ChangeAt Go.RowKit

def incT (t : Int) (p : TP) : Bool := incB p.a p.b t
theorem rows_slice (ps : List TP) (t : Int) : sortR (rows ((ps.filter (incT t)).map TP.row)) = sl (tus ps) t := by
  unfold sl tus rows
  rw [List.filter_map, List.map_map, List.map_map]
  rfl
def TlR (w : World) (ps : List TP) (t : Int) (u i : Value) (wr : World) : Prop := ∃ k : Nat, k ≤ ps.length ∧ i = .int .i64 k ∧ OwnG tP.e w wr u (((ps.take k).filter (incT t)).map TP.row)
/-- the timeslice -/
def TlP (ps : List TP) (t : Int) (w : World) (e : Ending) (w' : World) : Prop := ∃ v' qs, e = .returned v' ∧ RdG w' v' qs ∧ RdAll w' qs ∧ rows qs = sl (tus ps) t ∧ Ext w w'
set_option maxHeartbeats 8000000 in
set_option maxRecDepth 100000 in
theorem tslice_prg (ps : List TP) (t : Int) (v : Value) (w : World) (h : RdG w v ps) (hI : RdTs w ps) (hl : ps.length ≤ 100000) (hs : SmT ps) : Calls Tryz.prog 13 #[v, .int .i64 t] w (TlP ps t w) := by
  obtain ⟨ad, cap, rfl, h1, h2⟩ := h.shape
  have H := Lib.hid h
  have HI := Lib.hid hI
  have HS := Lib.hid hs
  clear h hI hs
  unfold maxLen at h2
  obtain ⟨n, hn⟩ : ∃ n, n = ps.length := ⟨_, rfl⟩
  have HN := Lib.hid hn
  rw [← hn] at H h1 hl ⊢
  clear hn
  go_enter Tryz.func13, Tryz.ntmps13
  go_wp2_with fail
  go_loopw [5, 10] (TlR w ps t) (fun _ i _ => n - (intOf i).toNat)
  case atStart => exact ⟨0, Nat.zero_le _, rfl, OwnG.nil _ _ _ (Ext.refl _)⟩
  case round =>
    obtain ⟨k, hk, rfl, hO⟩ := hrel
    have hkn : k ≤ n := by rw [HN.out]; exact hk
    by_cases hlt : k < n
    · have hlt' : k < ps.length := by rw [← HN.out]; exact hlt
      obtain ⟨g, o, rfl, c0', c1', c2', c3'⟩ := rd_T H.out k hlt'
      have c0 := hO.2.keeps c0'
      have c1 := hO.2.keeps c1'
      have c2 := hO.2.keeps c2'
      have c3 := hO.2.keeps c3'
      clear c0' c1' c2' c3'
      have HY := Lib.hid (filt_yes (f := incT t) hlt')
      have HZ := Lib.hid (filt_no (f := incT t) hlt')
      have hfl : (((ps.take k).filter (incT t)).map TP.row).length ≤ 1000000 := by rw [List.length_map]; have := filt_len (incT t) ps k; have := HN.out; omega
      have hi0 : (0 : Int) ≤ (k : Int) := by omega
      have hi1 : (k : Int) < (n : Int) := by omega
      have hro := fun w2 => rowOf_gw ps[k] w2
      generalize ps[k] = x at *
      have hx : incT t x = incB x.a x.b t := rfl
      obtain ⟨⟨xa, xn, xc, xb, xm, xd⟩, xr, pa, pb⟩ := x
      simp only [Hd.x, Hd.y, tv] at c0 c1 c2 c3 hx hro
      obtain ⟨b0, b1, b2, b3⟩ := box4 wr (.slice xa xn xc) (.int .i64 pa) (.int .i64 pb) (.slice xb xm xd) 32
      have hE0 : Ext wr (wr.alloc (.cells #[.slice xa xn xc, .int .i64 pa, .int .i64 pb, .slice xb xm xd] 32)) := (Ext.refl wr).alloc _ _
      have hic := fun w2 => inc_per pa pb t w2
      cases hb : incB pa pb t with
      | true =>
        rw [hb] at hic
        have HX := Lib.hid (show ((ps.take (k + 1)).filter (incT t)).map TP.row = ((ps.take k).filter (incT t)).map TP.row ++ [(⟨⟨xa, xn, xc, xb, xm, xd⟩, xr⟩ : P)] by rw [HY.out (by rw [hx, hb]), List.map_append]; rfl)
        have HIC := Lib.hid hic
        have HRO := Lib.hid hro
        have HO := Lib.hid hO
        have HFL := Lib.hid hfl
        clear HY HZ hb hx hO hfl hic hro
        generalize ((ps.take k).filter (incT t)).map TP.row = os at *
        go_wp2_with fail
        generalize wr.alloc (.cells #[.slice xa xn xc, .int .i64 pa, .int .i64 pb, .slice xb xm xd] 32) = w0 at *
        refine (HIC.out _).mono ?_; rintro e w1 ⟨rfl, hg⟩
        have hE1 := ext_of_grown hg
        have d0 := hE1.keeps b0
        have d1 := hE1.keeps b1
        have d2 := hE1.keeps b2
        have d3 := hE1.keeps b3
        have hz : wr.heap.size < w1.heap.size := World.block_lt_of_cell? _ _ d0
        have HE := Lib.hid (hE0.trans hE1)
        clear b0 b1 b2 b3 c0 c1 c2 c3 hg hE0 hE1
        go_wp2_with fail
        refine (HRO.out _).mono ?_; rintro e w2 ⟨rfl, hg2⟩
        have HE2 := Lib.hid (HE.out.trans hg2.ext)
        clear d0 d1 d2 d3 hg2
        go_wp2_with (at_builtin; refine appG tP rfl _ _ rfl w _ os rfl ?a1 _ [(⟨⟨xa, xn, xc, xb, xm, xd⟩, xr⟩ : P)] rfl ?a2 ?a3 ?_; (case a1 => exact HO.out.ext (HE2.out.trans ((Ext.refl w2).alloc _ _))); (case a2 => exact rd_litG _ [(⟨⟨xa, xn, xc, xb, xm, xd⟩, xr⟩ : P)] #[.slice xa xn xc, .slice xb xm xd] 53 _ 1 rfl rfl (by simp) rfl); (case a3 => have := HFL.out; simp; omega); intro v5 w5 hO5 hg5)
        go_roundw
        case rel => exact ⟨k + 1, hlt', by go_num, by rw [HX.out]; exact hO5⟩
        case measure => simp [intOf]; omega
      | false =>
        rw [hb] at hic
        have HX := Lib.hid (HZ.out (by rw [hx, hb]))
        have HIC := Lib.hid hic
        have HO := Lib.hid hO
        clear HY HZ hb hx hO hfl hic hro
        go_wp2_with fail
        refine (HIC.out _).mono ?_; rintro e w1 ⟨rfl, hg⟩
        have HE := Lib.hid (hE0.trans (ext_of_grown hg))
        clear b0 b1 b2 b3 c0 c1 c2 c3 hg hE0
        go_wp2_with fail
        go_roundw
        case rel => exact ⟨k + 1, hlt', by go_num, by rw [HX.out]; exact HO.out.ext HE.out⟩
        case measure => simp [intOf]; omega
    · have hke : k = n := by omega
      have hall : ps.take k = ps := by rw [List.take_of_length_le]; rw [← HN.out, hke]; exact Nat.le_refl _
      rw [hall] at hO
      have HO := Lib.hid hO
      have HLE := Lib.hid (show ((ps.filter (incT t)).map TP.row).length ≤ 1000000 by rw [List.length_map]; have := List.length_filter_le (incT t) ps; have := HN.out; omega)
      have HIR := Lib.hid (show RdAll wr ((ps.filter (incT t)).map TP.row) from fun p hp => by
        obtain ⟨q, hq, rfl⟩ := List.mem_map.1 hp
        exact ((HI.out q (List.mem_filter.1 hq).1).ext hO.2).row)
      have HSR := Lib.hid (show ∀ p ∈ (ps.filter (incT t)).map TP.row, p.r.v.length ≤ 1000000 ∧ p.r.t.length ≤ 1000000 from fun p hp => by
        obtain ⟨q, hq, rfl⟩ := List.mem_map.1 hp
        exact HS.out q (List.mem_filter.1 hq).1)
      clear hO hall
      go_wp2_with fail
      refine (sort_prg _ _ wr HO.out.rd HIR.out HLE.out HSR.out).mono ?_; rintro e w2 ⟨v2, qs, rfl, q1, q2, q3, q4⟩
      have HQ := Lib.hid (And.intro q1 (And.intro q2 (And.intro q3 q4)))
      clear q1 q2 q3 q4
      go_wp2_with fail
      go_ret
      exact ⟨_, qs, rfl, HQ.out.1, HQ.out.2.1, by rw [HQ.out.2.2.1, rows_slice], HO.out.2.trans HQ.out.2.2.2⟩
set_option maxHeartbeats 8000000 in
set_option maxRecDepth 100000 in
theorem tslice_ref (ps : List TP) (t : Int) (v : Value) (w : World) (h : RdG w v ps) (hI : RdTs w ps) (hl : ps.length ≤ 100000) (hs : SmT ps) : Calls Tryz.prog 17 #[v, .int .i64 t] w (TlP ps t w) := by
  obtain ⟨ad, cap, rfl, h1, h2⟩ := h.shape
  have H := Lib.hid h
  have HI := Lib.hid hI
  have HS := Lib.hid hs
  clear h hI hs
  unfold maxLen at h2
  obtain ⟨n, hn⟩ : ∃ n, n = ps.length := ⟨_, rfl⟩
  have HN := Lib.hid hn
  rw [← hn] at H h1 hl ⊢
  clear hn
  go_enter Tryz.func17, Tryz.ntmps17
  go_wp2_with fail
  go_loopw [5, 10] (TlR w ps t) (fun _ i _ => n - (intOf i).toNat)
  case atStart => exact ⟨0, Nat.zero_le _, rfl, OwnG.nil _ _ _ (Ext.refl _)⟩
  case round =>
    obtain ⟨k, hk, rfl, hO⟩ := hrel
    have hkn : k ≤ n := by rw [HN.out]; exact hk
    by_cases hlt : k < n
    · have hlt' : k < ps.length := by rw [← HN.out]; exact hlt
      obtain ⟨g, o, rfl, c0', c1', c2', c3'⟩ := rd_T H.out k hlt'
      have c0 := hO.2.keeps c0'
      have c1 := hO.2.keeps c1'
      have c2 := hO.2.keeps c2'
      have c3 := hO.2.keeps c3'
      clear c0' c1' c2' c3'
      have HY := Lib.hid (filt_yes (f := incT t) hlt')
      have HZ := Lib.hid (filt_no (f := incT t) hlt')
      have hfl : (((ps.take k).filter (incT t)).map TP.row).length ≤ 1000000 := by rw [List.length_map]; have := filt_len (incT t) ps k; have := HN.out; omega
      have hi0 : (0 : Int) ≤ (k : Int) := by omega
      have hi1 : (k : Int) < (n : Int) := by omega
      have hro : True := trivial
      generalize ps[k] = x at *
      have hx : incT t x = incB x.a x.b t := rfl
      obtain ⟨⟨xa, xn, xc, xb, xm, xd⟩, xr, pa, pb⟩ := x
      simp only [Hd.x, Hd.y] at c0 c1 c2 c3 hx
      obtain ⟨b0, b1, b2, b3⟩ := box4 wr (.slice xa xn xc) (.int .i64 pa) (.int .i64 pb) (.slice xb xm xd) 32
      have hE0 : Ext wr (wr.alloc (.cells #[.slice xa xn xc, .int .i64 pa, .int .i64 pb, .slice xb xm xd] 32)) := (Ext.refl wr).alloc _ _
      have hic := fun w2 => inc_ref pa pb t w2
      cases hb : incB pa pb t with
      | true =>
        rw [hb] at hic
        have HX := Lib.hid (show ((ps.take (k + 1)).filter (incT t)).map TP.row = ((ps.take k).filter (incT t)).map TP.row ++ [(⟨⟨xa, xn, xc, xb, xm, xd⟩, xr⟩ : P)] by rw [HY.out (by rw [hx, hb]), List.map_append]; rfl)
        have HIC := Lib.hid hic
        have HRO := Lib.hid hro
        have HO := Lib.hid hO
        have HFL := Lib.hid hfl
        clear HY HZ hb hx hO hfl hic hro
        generalize ((ps.take k).filter (incT t)).map TP.row = os at *
        go_wp2_with fail
        generalize wr.alloc (.cells #[.slice xa xn xc, .int .i64 pa, .int .i64 pb, .slice xb xm xd] 32) = w0 at *
        refine (HIC.out _).mono ?_; rintro e w1 ⟨rfl, hg⟩
        have hE1 := ext_of_grown hg
        have d0 := hE1.keeps b0
        have d1 := hE1.keeps b1
        have d2 := hE1.keeps b2
        have d3 := hE1.keeps b3
        have hz : wr.heap.size < w1.heap.size := World.block_lt_of_cell? _ _ d0
        have HE := Lib.hid (hE0.trans hE1)
        clear b0 b1 b2 b3 c0 c1 c2 c3 hg hE0 hE1
        go_wp2_with (at_builtin; refine appG tP rfl _ _ rfl w _ os rfl ?a1 _ [(⟨⟨xa, xn, xc, xb, xm, xd⟩, xr⟩ : P)] rfl ?a2 ?a3 ?_; (case a1 => exact HO.out.ext (HE.out.trans ((Ext.refl w1).alloc _ _))); (case a2 => exact rd_litG _ [(⟨⟨xa, xn, xc, xb, xm, xd⟩, xr⟩ : P)] #[.slice xa xn xc, .slice xb xm xd] 53 _ 1 rfl rfl (by simp) rfl); (case a3 => have := HFL.out; simp; omega); intro v5 w5 hO5 hg5)
        go_roundw
        case rel => exact ⟨k + 1, hlt', by go_num, by rw [HX.out]; exact hO5⟩
        case measure => simp [intOf]; omega
      | false =>
        rw [hb] at hic
        have HX := Lib.hid (HZ.out (by rw [hx, hb]))
        have HIC := Lib.hid hic
        have HO := Lib.hid hO
        clear HY HZ hb hx hO hfl hic hro
        go_wp2_with fail
        refine (HIC.out _).mono ?_; rintro e w1 ⟨rfl, hg⟩
        have HE := Lib.hid (hE0.trans (ext_of_grown hg))
        clear b0 b1 b2 b3 c0 c1 c2 c3 hg hE0
        go_wp2_with fail
        go_roundw
        case rel => exact ⟨k + 1, hlt', by go_num, by rw [HX.out]; exact HO.out.ext HE.out⟩
        case measure => simp [intOf]; omega
    · have hke : k = n := by omega
      have hall : ps.take k = ps := by rw [List.take_of_length_le]; rw [← HN.out, hke]; exact Nat.le_refl _
      rw [hall] at hO
      have HO := Lib.hid hO
      have HLE := Lib.hid (show ((ps.filter (incT t)).map TP.row).length ≤ 1000000 by rw [List.length_map]; have := List.length_filter_le (incT t) ps; have := HN.out; omega)
      have HIR := Lib.hid (show RdAll wr ((ps.filter (incT t)).map TP.row) from fun p hp => by
        obtain ⟨q, hq, rfl⟩ := List.mem_map.1 hp
        exact ((HI.out q (List.mem_filter.1 hq).1).ext hO.2).row)
      have HSR := Lib.hid (show ∀ p ∈ (ps.filter (incT t)).map TP.row, p.r.v.length ≤ 1000000 ∧ p.r.t.length ≤ 1000000 from fun p hp => by
        obtain ⟨q, hq, rfl⟩ := List.mem_map.1 hp
        exact HS.out q (List.mem_filter.1 hq).1)
      clear hO hall
      go_wp2_with fail
      refine (sort_ref _ _ _ wr HO.out.rd HIR.out (Nat.le_refl _) HLE.out).mono ?_; rintro e w2 ⟨v2, qs, rfl, q1, q2, q3⟩
      have HQ := Lib.hid (And.intro q1 (And.intro q2 q3))
      clear q1 q2 q3
      go_wp2_with fail
      go_ret
      exact ⟨_, qs, rfl, HQ.out.1.rd, fun p hp => (HIR.out p (HQ.out.2.1.mem_iff.1 hp)).ext HQ.out.1.2, by rw [HQ.out.2.2, rows_slice], HO.out.2.trans HQ.out.1.2⟩
end Go.Proofs.YtcankdikbnllkaaGreat
/- slices.Compact hands back a row of the call's own. -/
namespace Go.Proofs.YtcankdikbnllkaaGreat
open Go.ChangeShapes Go.WideShapes Go.ChangeAt Go.RowKit

theorem cut_O (e : TypeId) (W w : World) (v : Value) (l : List Int) (hO : OwnG e W w v l) (hlen : l.length ≤ 100000000) :
    Calls Tryz.prog 44 #[v] w fun e' w' => ∃ v', e' = .returned v' ∧ OwnG e W w' v' (Lib.compact l) := by
  rcases hO.1.2 with ⟨rfl, h0⟩ | ⟨g, cap, cur, rfl, hb, hg, hnc, hcm, hcs, htake⟩
  · refine (Tryz.slices_Compact_int_empty none 0 w).mono ?_
    rintro e w' ⟨rfl, rfl⟩
    obtain rfl : l = [] := List.eq_nil_of_length_eq_zero h0
    exact ⟨_, rfl, OwnG.nil _ _ _ hO.2⟩
  · refine (Tryz.slices_Compact_int g 0 cap l w (holdsI hO) (by omega) hnc).mono ?_
    rintro e w' ⟨rfl, q, rfl⟩
    have hle : (Lib.compact l).length ≤ l.length := by unfold Lib.compact Lib.compactUpTo; rw [List.length_map]; exact Nat.le_trans (List.length_filter_le _ _) (by simp)
    have hl : (Lib.compact l ++ List.replicate (l.length - (Lib.compact l).length) 0).length = l.length := by simp; omega
    have := own_put0 hO hl q
    refine ⟨_, rfl, ?_⟩
    have h2 := OwnG.take this (Lib.compact l).length (by rw [hl]; exact hle)
    rw [List.take_left'] at h2
    · exact h2
    · rfl
end Go.Proofs.YtcankdikbnllkaaGreat
