/- The program's holding and groupSize. -/
import Derived.Test.YtnckdopphimgoaaZz10
import Derived.Test.YtnckdopphimgoaaZz21
namespace Go.Proofs.Ytnckdopphimgoaa
open Go.ChangeShapes Go.WideShapes Go.ChangeAt Go.RowKit Go.Sort

def okT (p : TP) : Bool := okV p.a p.b
theorem filt_yes {α : Type} {f : α → Bool} {l : List α} {k : Nat} (hk : k < l.length) (h : f l[k] = true) : (l.take (k + 1)).filter f = (l.take k).filter f ++ [l[k]] := by
  rw [List.take_succ_eq_append_getElem hk, List.filter_append, List.filter_cons_of_pos h]; rfl
theorem filt_no {α : Type} {f : α → Bool} {l : List α} {k : Nat} (hk : k < l.length) (h : f l[k] = false) : (l.take (k + 1)).filter f = (l.take k).filter f := by
  rw [List.take_succ_eq_append_getElem hk, List.filter_append, List.filter_cons_of_neg (by rw [h]; decide)]; simp
theorem filt_len {α : Type} (f : α → Bool) (l : List α) (k : Nat) : ((l.take k).filter f).length ≤ l.length := Nat.le_trans (List.length_filter_le _ _) (by rw [List.length_take]; exact Nat.min_le_right _ _)
def HoR (w : World) (ps : List TP) (u i : Value) (wr : World) : Prop := ∃ k : Nat, k ≤ ps.length ∧ i = .int .i64 k ∧ OwnG tT.e w wr u ((ps.take k).filter okT)
set_option maxHeartbeats 4000000 in
set_option maxRecDepth 100000 in
theorem hold_prg (ps : List TP) (v : Value) (w : World) (h : RdG w v ps) (hl : ps.length ≤ 1000000) : Calls Try.prog 25 #[v] w fun e w' => ∃ v', e = .returned v' ∧ OwnG tT.e w w' v' (ps.filter okT) := by
  obtain ⟨ad, cap, rfl, h1, h2⟩ := h.shape
  have H := Lib.hid h
  clear h
  unfold maxLen at h2
  obtain ⟨n, hn⟩ : ∃ n, n = ps.length := ⟨_, rfl⟩
  have HN := Lib.hid hn
  rw [← hn] at H h1 hl ⊢
  clear hn
  go_enter Try.func25, Try.ntmps25
  go_wp2_with fail
  go_loopw [3, 8] (HoR w ps) (fun _ i _ => n - (intOf i).toNat)
  case atStart => exact ⟨0, Nat.zero_le _, rfl, OwnG.nil _ _ _ (Ext.refl _)⟩
  case round =>
    obtain ⟨k, hk, rfl, hO⟩ := hrel
    have hkn : k ≤ n := by rw [HN.out]; exact hk
    by_cases hlt : k < n
    · have hlt' : k < ps.length := by rw [← HN.out]; exact hlt
      obtain ⟨g, o, rfl, c0', c1', c2', c3'⟩ := rd_T H.out k hlt'
      have c0 := hO.2.keeps c0'
      have c1 := hO.2.keeps c1'
      have c2 := hO.2.keeps c2'
      have c3 := hO.2.keeps c3'
      clear c0' c1' c2' c3'
      have HY := Lib.hid (filt_yes (f := okT) hlt')
      have HZ := Lib.hid (filt_no (f := okT) hlt')
      have hfl : ((ps.take k).filter okT).length ≤ 1000000 := by have := filt_len okT ps k; have := HN.out; omega
      have hi0 : (0 : Int) ≤ (k : Int) := by omega
      have hi1 : (k : Int) < (n : Int) := by omega
      generalize ps[k] = x at *
      have hx : okT x = okV x.a x.b := rfl
      obtain ⟨⟨xa, xn, xc, xb, xm, xd⟩, xr, pa, pb⟩ := x
      simp only [Hd.x, Hd.y] at c0 c1 c2 c3 hx
      obtain ⟨b0, b1, b2, b3⟩ := box4 wr (.slice xa xn xc) (.int .i64 pa) (.int .i64 pb) (.slice xb xm xd) 31
      have hE0 : Ext wr (wr.alloc (.cells #[.slice xa xn xc, .int .i64 pa, .int .i64 pb, .slice xb xm xd] 31)) := (Ext.refl wr).alloc _ _
      cases hb : okV pa pb with
      | true =>
        have HX := Lib.hid (HY.out (by rw [hx, hb]))
        have HB := Lib.hid hb
        have HO := Lib.hid hO
        have HFL := Lib.hid hfl
        clear HY HZ hb hx hO hfl
        generalize (ps.take k).filter okT = os at *
        go_wp2_with fail
        generalize wr.alloc (.cells #[.slice xa xn xc, .int .i64 pa, .int .i64 pb, .slice xb xm xd] 31) = w0 at *
        refine (vpp_yes pa pb _ HB.out).mono ?_; rintro e w1 ⟨rfl, hg⟩
        have hE1 := ext_of_grown hg
        have d0 := hE1.keeps b0
        have d1 := hE1.keeps b1
        have d2 := hE1.keeps b2
        have d3 := hE1.keeps b3
        have hz : wr.heap.size < w1.heap.size := World.block_lt_of_cell? _ _ d0
        have HE := Lib.hid (hE0.trans hE1)
        clear b0 b1 b2 b3 c0 c1 c2 c3 hg hE0 hE1
        go_wp2_with (at_builtin; refine appG tT rfl _ _ rfl w _ os rfl ?a1 _ [(⟨⟨xa, xn, xc, xb, xm, xd⟩, xr, pa, pb⟩ : TP)] rfl ?a2 ?a3 ?_; (case a1 => exact HO.out.ext (HE.out.trans ((Ext.refl w1).alloc _ _))); (case a2 => exact rd_litG _ [(⟨⟨xa, xn, xc, xb, xm, xd⟩, xr, pa, pb⟩ : TP)] #[.slice xa xn xc, .int .i64 pa, .int .i64 pb, .slice xb xm xd] 31 _ 1 rfl rfl (by simp) rfl); (case a3 => have := HFL.out; simp; omega); intro v5 w5 hO5 hg5)
        go_roundw
        case rel => exact ⟨k + 1, hlt', by go_num, by rw [HX.out]; exact hO5⟩
        case measure => simp [intOf]; omega
      | false =>
        have HX := Lib.hid (HZ.out (by rw [hx, hb]))
        have HB := Lib.hid hb
        have HO := Lib.hid hO
        clear HY HZ hb hx hO hfl
        generalize (ps.take k).filter okT = os at *
        go_wp2_with fail
        generalize wr.alloc (.cells #[.slice xa xn xc, .int .i64 pa, .int .i64 pb, .slice xb xm xd] 31) = w0 at *
        refine (vpp_no pa pb _ HB.out).mono ?_; rintro e w1 ⟨rfl, hg⟩
        have hE1 := ext_of_grown hg
        have HE := Lib.hid (hE0.trans hE1)
        clear b0 b1 b2 b3 c0 c1 c2 c3 hg hE0 hE1
        go_wp2_with fail
        go_roundw
        case rel => exact ⟨k + 1, hlt', by go_num, by rw [HX.out]; exact HO.out.ext HE.out⟩
        case measure => simp [intOf]; omega
    · have hke : k = n := by omega
      have hall : ps.take k = ps := by rw [List.take_of_length_le]; rw [← HN.out, hke]; exact Nat.le_refl _
      rw [hall] at hO
      have HO := Lib.hid hO
      clear hO hall
      go_wp2_with fail
      go_ret
      exact ⟨_, rfl, HO.out⟩
/-- the size of the first group -/
structure GsP (ps : List TP) (s : Nat) : Prop where
  pos : 1 ≤ s
  le : s ≤ ps.length
  same : ∀ (j : Nat) (h : j < ps.length), j < s → ps[j].r = (ps[0]'(by omega)).r
  last : ∀ (h : s < ps.length), ps[s].r ≠ (ps[0]'(by omega)).r
/-- the same row so far -/
def SmP (ps : List TP) (s : Nat) : Prop := ∀ (j : Nat) (h : j < ps.length), j < s → ps[j].r = (ps[0]'(by omega)).r
def GsR (ps : List TP) (w : World) (i : Value) (wr : World) : Prop := ∃ s : Nat, 1 ≤ s ∧ s ≤ ps.length ∧ i = .int .i64 s ∧ Hid (SmP ps s) ∧ Ext w wr
set_option maxHeartbeats 4000000 in
set_option maxRecDepth 100000 in
theorem size_prg (ps : List TP) (v : Value) (w : World) (h : RdG w v ps) (hI : RdTs w ps) (h0 : 0 < ps.length) (hl : ps.length ≤ 1000000) : Calls Try.prog 28 #[v] w fun e w' => ∃ s : Nat, e = .returned (.int .i64 s) ∧ GsP ps s ∧ Ext w w' := by
  obtain ⟨ad, cap, rfl, h1, h2⟩ := h.shape
  have H := Lib.hid h
  have HI := Lib.hid hI
  have MX := Lib.hid (show Try.prog.follows Departure.mixedOrders = true by kernel_rfl)
  clear h hI
  unfold maxLen at h2
  obtain ⟨n, hn⟩ : ∃ n, n = ps.length := ⟨_, rfl⟩
  have HN := Lib.hid hn
  rw [← hn] at H h1 hl ⊢
  clear hn
  have hn0 : 0 < n := by rw [HN.out]; exact h0
  go_enter Try.func28, Try.ntmps28
  go_wp2_with fail
  go_loopw [3] (GsR ps w) (fun i _ => n - (intOf i).toNat)
  case atStart => exact ⟨1, Nat.le_refl _, h0, rfl, Lib.hid (fun j hj hj1 => by obtain rfl : j = 0 := (by omega); rfl), Ext.refl _⟩
  case round =>
    obtain ⟨s, hs0, hs, rfl, HS, hE⟩ := hrel
    have hsn : s ≤ n := by rw [HN.out]; exact hs
    have hi0 : (0 : Int) ≤ (s : Int) := by omega
    have hi3 : (0 : Int) < (n : Int) := by omega
    by_cases hlt : s < n
    · have hlt' : s < ps.length := by rw [← HN.out]; exact hlt
      have hi1 : (s : Int) < (n : Int) := by omega
      obtain ⟨g, o, rfl, c0', c1', c2', c3'⟩ := rd_T H.out s hlt'
      obtain ⟨g', o', e', d0', d1', d2', d3'⟩ := rd_T H.out 0 h0
      simp only [Option.some.injEq, Addr.mk.injEq, and_true] at e'
      obtain ⟨rfl, rfl⟩ := e'
      simp only [Nat.zero_mul, Nat.add_zero] at d0' d1' d2' d3'
      have z0 : g < wr.heap.size := World.block_lt_of_cell? _ _ (hE.keeps c0')
      have e0 := fun n os => cell_grown (a := ⟨g, o + s * 4, none⟩) z0 (hE.keeps c0') n os
      have e1 := fun n os => cell_grown (a := ⟨g, o + s * 4 + 1, none⟩) z0 (hE.keeps c1') n os
      have e2 := fun n os => cell_grown (a := ⟨g, o + s * 4 + 2, none⟩) z0 (hE.keeps c2') n os
      have e3 := fun n os => cell_grown (a := ⟨g, o + s * 4 + 3, none⟩) z0 (hE.keeps c3') n os
      have f0 := fun n os => cell_grown (a := ⟨g, o, none⟩) z0 (hE.keeps d0') n os
      have f1 := fun n os => cell_grown (a := ⟨g, o + 1, none⟩) z0 (hE.keeps d1') n os
      have f2 := fun n os => cell_grown (a := ⟨g, o + 2, none⟩) z0 (hE.keeps d2') n os
      have f3 := fun n os => cell_grown (a := ⟨g, o + 3, none⟩) z0 (hE.keeps d3') n os
      have hcc := fun n os => compT_gw ps[0] ps[s] (grow (wr.drewN n) os) ((HI.out _ (List.getElem_mem _)).ext (hE.trans (show Gw wr (grow (wr.drewN n) os) from ⟨n, os, rfl⟩).ext)) ((HI.out _ (List.getElem_mem _)).ext (hE.trans (show Gw wr (grow (wr.drewN n) os) from ⟨n, os, rfl⟩).ext))
      have HX := Lib.hid (fun (hh : ps[s].r = ps[0].r) => show SmP ps (s + 1) from fun j hj hj1 => by
        by_cases ej : j = s
        · subst ej; exact hh
        · exact HS.out j hj (by omega))
      have HG := Lib.hid (fun (hh : ps[s].r ≠ ps[0].r) => show GsP ps s from ⟨hs0, hs, HS.out, fun _ => hh⟩)
      clear c0' c1' c2' c3' d0' d1' d2' d3' z0 HS
      have hz := cw_ord.zero ps[0].r ps[s].r
      generalize ps[s] = x at *
      generalize ps[0] = y at *
      obtain ⟨⟨xa, xn, xc, xb, xm, xd⟩, xr, pa, pb⟩ := x
      obtain ⟨⟨ya, yn, yc, yb, ym, yd⟩, yr, qa, qb⟩ := y
      simp only [Hd.x, Hd.y, tv] at e0 e1 e2 e3 f0 f1 f2 f3 hcc hz HX HG
      by_cases he : xr = yr
      · have hr : cmpW yr xr = 0 := hz.2 he.symm
        rw [hr] at hcc
        have HCC := Lib.hid hcc
        have HY := Lib.hid (HX.out he)
        clear hr hcc he hz HX HG
        go_wp2_with fail
        have mixed := MX.out
        refine wp_region_quiet_grown (by assumption) (by kernel_rfl) ?_
        repeat (first | go_big_quiet_step (first | (go_at_call 27; refine Calls.grown_of (HCC.out _ _))) | quiet_step (first | (go_at_call 27; refine Calls.grown_of (HCC.out _ _))))
        refine wpQuiet_nil ?_
        intro _ hw'
        obtain ⟨⟨nq, osq⟩, hw''⟩ := hw'
        subst hw''
        clear mixed e0 e1 e2 e3 f0 f1 f2 f3
        have hE2 := hE.trans (show Gw wr (grow (wr.drewN nq) osq) from ⟨nq, osq, rfl⟩).ext
        go_wp2_with fail
        go_roundw
        case rel => exact ⟨s + 1, by omega, hlt', by go_num, HY, hE2⟩
        case measure => simp [intOf]; omega
      · have hr : ¬ cmpW yr xr = 0 := fun hh => he (hz.1 hh).symm
        generalize cmpW yr xr = rr at *
        have hr1 : (rr == 0) = false := by simpa using hr
        have HCC := Lib.hid hcc
        have HY := Lib.hid (HG.out he)
        clear hcc he hz HX HG
        go_wp2_with fail
        have mixed := MX.out
        refine wp_region_quiet_grown (by assumption) (by kernel_rfl) ?_
        repeat (first | go_big_quiet_step (first | (go_at_call 27; refine Calls.grown_of (HCC.out _ _))) | quiet_step (first | (go_at_call 27; refine Calls.grown_of (HCC.out _ _))))
        refine wpQuiet_nil ?_
        intro _ hw'
        obtain ⟨⟨nq, osq⟩, hw''⟩ := hw'
        subst hw''
        clear mixed e0 e1 e2 e3 f0 f1 f2 f3
        have hE2 := hE.trans (show Gw wr (grow (wr.drewN nq) osq) from ⟨nq, osq, rfl⟩).ext
        go_wp2_with fail
        go_ret
        exact ⟨s, rfl, HY.out, hE2⟩
    · have hsn' : s = n := by omega
      subst hsn'
      have HY := Lib.hid (show GsP ps s from ⟨hs0, hs, HS.out, fun hh => absurd hh (by have := HN.out; omega)⟩)
      have hge : ¬ ((s : Int) < (s : Int)) := by omega
      clear HS
      go_wp2_with fail
      have mixed := MX.out
      refine wp_region_quiet_grown (by assumption) (by kernel_rfl) ?_
      repeat (first | go_big_quiet_step (fail) | quiet_step (fail))
      refine wpQuiet_nil ?_
      intro _ hw'
      obtain ⟨⟨nq, osq⟩, hw''⟩ := hw'
      subst hw''
      clear mixed
      have hE2 := hE.trans (show Gw wr (grow (wr.drewN nq) osq) from ⟨nq, osq, rfl⟩).ext
      go_wp2_with fail
      go_ret
      exact ⟨s, rfl, HY.out, hE2⟩
end Go.Proofs.Ytnckdopphimgoaa
