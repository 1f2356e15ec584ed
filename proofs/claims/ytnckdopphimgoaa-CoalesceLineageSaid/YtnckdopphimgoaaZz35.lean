/- The program's Normalize. -/
import Derived.Test.YtnckdopphimgoaaZz10
import Derived.Test.YtnckdopphimgoaaZz32
import Derived.Test.YtnckdopphimgoaaZz34
namespace Go.Proofs.Ytnckdopphimgoaa
open Go.ChangeShapes Go.WideShapes Go.ChangeAt Go.RowKit

def SmT (ps : List TP) : Prop := ∀ p ∈ ps, p.r.v.length ≤ 1000000 ∧ p.r.t.length ≤ 1000000
theorem nf_from {l N : List Tu} (h : IsNf (ats l) N) : ∀ x ∈ N, ∃ y ∈ l, y.r = x.r := by
  intro x hx
  have hm : (x.a, x.b) ∈ per N x.r := per_mem.2 hx
  have ho := (h.lam x.r).1 _ hm
  have hpos : 0 < ats N x.r x.a := cov_pos.2 ⟨_, hm, incB_yes.2 ⟨ho, by have := ho.2.1; simp only at this ⊢; omega⟩⟩
  rw [h.cnt] at hpos
  obtain ⟨p, hp, _⟩ := cov_pos.1 hpos
  exact ⟨_, per_mem.1 hp, rfl⟩
theorem SmT.nf {ps qs : List TP} (h : SmT ps) (k : IsNf (ats (tus ps)) (tus qs)) : SmT qs := by
  intro q hq
  obtain ⟨y, hy, e⟩ := nf_from k q.tu (List.mem_map.2 ⟨q, hq, rfl⟩)
  obtain ⟨p, hp, rfl⟩ := List.mem_map.1 hy
  have := h p hp
  simp only at e
  rw [e] at this
  exact this
def NzR (W : World) (l : List Tu) (vn i : Value) (wr : World) : Prop := ∃ k : Nat, k ≤ l.length ∧ i = .int .i64 k ∧ OwnTs W wr vn (l.take k)
def NzP (ps : List TP) (w : World) (e : Ending) (w' : World) : Prop := ∃ v' qs, e = .returned v' ∧ RdG w' v' qs ∧ RdTs w' qs ∧ IsNf (ats (tus ps)) (tus qs) ∧ qs.length ≤ ps.length ∧ Ext w w'
set_option maxHeartbeats 8000000 in
set_option maxRecDepth 100000 in
theorem norm_prg (ps : List TP) (v : Value) (w : World) (h : RdG w v ps) (hI : RdTs w ps) (hl : ps.length ≤ 100000) (hs : SmT ps) : Calls Try.prog 10 #[v] w (NzP ps w) := by
  have H := Lib.hid h
  have HI := Lib.hid hI
  have HL := Lib.hid hl
  have HS := Lib.hid hs
  clear h hI hl hs
  go_enter Try.func10, Try.ntmps10
  go_wp2_with fail
  refine (form_prg ps v w H.out HI.out HL.out).mono ?_; rintro e w1 ⟨v1, N, rfl, hO, hIN, hNf, hNl⟩
  have HNf := Lib.hid hNf
  have HNl := Lib.hid hNl
  have HSN := Lib.hid (HS.out.nf hNf)
  have HR := Lib.hid hO.rd
  have HIN := Lib.hid hIN
  have HEW := Lib.hid hO.2
  obtain ⟨ad, cap, rfl, h1, h2⟩ := hO.rd.shape
  unfold maxLen at h2
  obtain ⟨n, hn⟩ : ∃ n, n = N.length := ⟨_, rfl⟩
  have HN := Lib.hid hn
  have hn1 : n ≤ 100000 := by have := HL.out; omega
  rw [← hn] at HR h1
  simp only [← hn]
  clear hn hO hIN hNf hNl
  go_wp2_with fail
  go_loopw [3, 9] (NzR w1 (tus N)) (fun _ i _ => n - (intOf i).toNat)
  case atStart => exact ⟨0, Nat.zero_le _, rfl, by simpa using OwnTs.nil (Ext.refl w1)⟩
  case round =>
    obtain ⟨k, hk, rfl, hO⟩ := hrel
    rw [tus_len] at hk
    have hkn : k ≤ n := by rw [HN.out]; exact hk
    by_cases hlt : k < n
    · have hlt' : k < N.length := by rw [← HN.out]; exact hlt
      obtain ⟨g, o, rfl, c0', c1', c2', c3'⟩ := rd_T HR.out k hlt'
      have hWr := hO.old
      have c0 := hWr.keeps c0'
      have c1 := hWr.keeps c1'
      have c2 := hWr.keeps c2'
      have c3 := hWr.keeps c3'
      have hi0 : (0 : Int) ≤ (k : Int) := by omega
      have hi1 : (k : Int) < (n : Int) := by omega
      have hix := HIN.out N[k] (List.getElem_mem _)
      have hsx := HSN.out N[k] (List.getElem_mem _)
      have HE := Lib.hid (List.take_succ_eq_append_getElem (l := tus N) (i := k) (by rw [tus_len]; exact hlt'))
      rw [tus_at N k hlt'] at HE
      have hro := fun w2 => rowOf_gw N[k] w2
      have hwp := fun w2 (hg : Ext w1 w2) => withP_prg N[k].row N[k].a N[k].b w2 (hix.ext hg).row hsx
      clear c0' c1' c2' c3'
      generalize N[k] = x at *
      obtain ⟨⟨xa, xn, xc, xb, xm, xd⟩, xr, pa, pb⟩ := x
      simp only [Hd.x, Hd.y, tv] at c0 c1 c2 c3 hro hwp
      have HRO := Lib.hid hro
      have HWP := Lib.hid hwp
      obtain ⟨qs, hq1, hq2, hq3⟩ := hO
      have hqn : qs.length ≤ 100000 := by
        have e1 : (tus qs).length = qs.length := tus_len qs
        rw [hq3, List.length_take, tus_len] at e1
        omega
      clear hro hwp hix hsx
      obtain ⟨B0, B1, B2, B3⟩ := box4 wr (.slice xa xn xc) (.int .i64 pa) (.int .i64 pb) (.slice xb xm xd) 31
      have EX : Ext wr (wr.alloc (.cells #[.slice xa xn xc, .int .i64 pa, .int .i64 pb, .slice xb xm xd] 31)) := (Ext.refl wr).alloc _ _
      go_wp2_with fail
      generalize wr.alloc (.cells #[.slice xa xn xc, .int .i64 pa, .int .i64 pb, .slice xb xm xd] 31) = w0 at *
      have K0 := Lib.hid B0
      have K1 := Lib.hid B1
      have K2 := Lib.hid B2
      have K3 := Lib.hid B3
      have HW0 := Lib.hid (hWr.trans EX)
      have HQ := Lib.hid hq1
      have HQ2 := Lib.hid hq2
      have HQ3 := Lib.hid hq3
      have HQN := Lib.hid hqn
      have HEX := Lib.hid EX
      have HB := Lib.hid (fun g hg => hq1.lt g hg)
      have hb0 : wr.heap.size < w0.heap.size := World.block_lt_of_cell? _ _ B0
      clear c0 c1 c2 c3 hWr EX hq1 hq2 hq3 hqn B0 B1 B2 B3
      go_region_held3 (fun w' => w'.cell? ⟨wr.heap.size, 0, none⟩ = some (.slice xa xn xc) ∧ w'.cell? ⟨wr.heap.size, 1, none⟩ = some (.int .i64 pa) ∧ w'.cell? ⟨wr.heap.size, 2, none⟩ = some (.int .i64 pb) ∧ w'.cell? ⟨wr.heap.size, 3, none⟩ = some (.slice xb xm xd)) (first | exact ⟨K0.out, K1.out, K2.out, K3.out⟩ | exact ⟨f0, f1, f2, f3⟩ | exact ⟨g0, g1, g2, g3⟩ | exact ⟨EA.out.keeps g0, EA.out.keeps g1, EA.out.keeps g2, EA.out.keeps g3⟩ | exact ⟨r0, r1, r2, r3⟩ | go_keep)
        (first | (go_at_call 19; refine (HRO.out _).mono ?_; rintro e w3 ⟨rfl, hg3⟩; have e3 : Ext w0 w3 := ⟨hg3.ext.1, hg3.ext.2.1, hg3.ext.2.2⟩; have f0 := e3.keeps K0.out; have f1 := e3.keeps K1.out; have f2 := e3.keeps K2.out; have f3 := e3.keeps K3.out; clear hg3) | (go_at_call 18; refine (HWP.out _ ?_).mono ?_; (first | exact HW0.out.trans e3 | exact (HW0.out.trans e3).drew); rintro e w4 ⟨⟨ya, yn, yc, yb, ym, yd⟩, rfl, o1, o2⟩; have e4 : Ext w3 w4 := ⟨o1.2.1, o1.2.2.1, o1.2.2.2⟩; have g0 := e4.keeps f0; have g1 := e4.keeps f1; have g2 := e4.keeps f2; have g3 := e4.keeps f3; have HO1 := Lib.hid o1; have HO2 := Lib.hid o2; have EA := Lib.hid ((Ext.refl w4).alloc #[Value.slice ya yn yc, .int .i64 pa, .int .i64 pb, Value.slice yb ym yd] 31); have HQ4 := Lib.hid (HQ.out.ext (HEX.out.trans (e3.trans (e4.trans EA.out)))); clear o1 o2) | (refine step_appGL tT rfl _ _ rfl w1 _ qs rfl ?a1 _ [(⟨⟨ya, yn, yc, yb, ym, yd⟩, xr, pa, pb⟩ : TP)] rfl ?a2 ?a3 ?_; (case a1 => exact HQ4.out); (case a2 => exact rd_litG w4 [(⟨⟨ya, yn, yc, yb, ym, yd⟩, xr, pa, pb⟩ : TP)] #[Value.slice ya yn yc, .int .i64 pa, .int .i64 pb, Value.slice yb ym yd] 31 _ 1 rfl rfl (by simp) rfl); (case a3 => have := HQN.out; simp; omega); intro v5 w5 hO5 hg5 hl5; have r0 := grow_cell hg5 (EA.out.keeps g0) (fun kk hh => by have := HB.out kk hh; omega); have r1 := grow_cell hg5 (EA.out.keeps g1) (fun kk hh => by have := HB.out kk hh; omega); have r2 := grow_cell hg5 (EA.out.keeps g2) (fun kk hh => by have := HB.out kk hh; omega); have r3 := grow_cell hg5 (EA.out.keeps g3) (fun kk hh => by have := HB.out kk hh; omega)))
      all_goals
        have hEL := HEX.out.trans (e3.trans (e4.trans EA.out))
        have hOT := Lib.hid (OwnTs.more HQ4.out (fun p hp => ⟨(HQ2.out p hp).1.ext hEL, (HQ2.out p hp).2.1.ext hEL, (HQ2.out p hp).2.2.ext hEL⟩) HQ3.out (p := (⟨⟨ya, yn, yc, yb, ym, yd⟩, xr, pa, pb⟩ : TP)) ⟨⟨HO1.out.rd.ext EA.out, HO2.out.rd.ext EA.out⟩, (HO1.out.off (by decide)).ext EA.out, (HO2.out.off (by decide)).ext EA.out⟩ hO5 hg5)
        clear hEL
        go_wp2_with fail
        go_roundw
        case rel => exact ⟨k + 1, by rw [tus_len]; exact hlt', by go_num, by rw [HE.out]; exact hOT.out⟩
        case measure => first | (simp [intOf]; done) | (simp [intOf]; omega)
    · have hke : k = n := by omega
      have hall : (tus N).take k = tus N := by rw [List.take_of_length_le]; rw [tus_len, ← HN.out, hke]; exact Nat.le_refl _
      rw [hall] at hO
      have HO := Lib.hid hO
      clear hO hall
      go_wp2_with fail
      go_ret
      obtain ⟨qs, q1, q2, q3⟩ := HO.out
      exact ⟨_, qs, rfl, q1.rd, fun p hp => (q2 p hp).1, by rw [q3]; exact HNf.out, by have e1 := tus_len qs; rw [q3, tus_len] at e1; rw [← e1]; exact HNl.out, HEW.out.trans q1.2⟩
end Go.Proofs.Ytnckdopphimgoaa
/- Tuples without their lineages, «as» they lie. -/
namespace Go.Proofs.Ytnckdopphimgoaa
open Go.ChangeShapes Go.WideShapes Go.ChangeAt Go.RowKit

/-- a tuple without its lineage: the values stay where they lie -/
def bareT (p : TP) : TP := ⟨⟨p.h.a, p.h.n, p.h.c, none, 0, 0⟩, stp p.r, p.a, p.b⟩
theorem tus_bare (ps : List TP) : tus (ps.map bareT) = nls (tus ps) := by
  unfold tus nls
  rw [List.map_map, List.map_map]
  rfl
theorem RdT.bare {w : World} {p : TP} (h : RdT w p) : RdT w (bareT p) := ⟨h.1, rdG_nil _⟩
theorem RdTs.bare {w : World} {ps : List TP} (h : RdTs w ps) : RdTs w (ps.map bareT) := fun p hp => by
  obtain ⟨q, hq, rfl⟩ := List.mem_map.1 hp
  exact (h q hq).bare
theorem SmT.bare {ps : List TP} (h : SmT ps) : SmT (ps.map bareT) := fun p hp => by
  obtain ⟨q, hq, rfl⟩ := List.mem_map.1 hp
  have := h q hq
  exact ⟨this.1, Nat.zero_le _⟩
def CoR (W : World) (l : List TP) (vn i : Value) (wr : World) : Prop := ∃ k : Nat, k ≤ l.length ∧ i = .int .i64 k ∧ OwnG tT.e W wr vn (l.take k)
/-- what Coalesce gives -/
def CoP (ps : List TP) (w : World) (e : Ending) (w' : World) : Prop := ∃ v' qs, e = .returned v' ∧ RdG w' v' qs ∧ RdTs w' qs ∧ IsCo (tus ps) (tus qs) ∧ qs.length ≤ ps.length ∧ SmT qs ∧ Ext w w'
def CoQ (ps : List TP) (w : World) (e : Ending) (w' : World) : Prop := ∃ v' qs, e = .returned v' ∧ RdG w' v' qs ∧ RdTs w' qs ∧ IsCo (tus ps) (tus qs) ∧ Ext w w'
end Go.Proofs.Ytnckdopphimgoaa
