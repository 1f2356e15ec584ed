/- Evaluating a query, of the program: projections. -/
import Derived.Test.YtbplapkcleipiaaGreatDoorZz02
import Derived.Test.YtbplapkcleipiaaGreatDoorZz04
import Derived.Test.YtbplapkcleipiaaGreatDoorZz15
import Derived.Test.YtbplapkcleipiaaGreatDoorZz17
import Derived.Test.YtbplapkcleipiaaGreatDoorZz26
namespace Go.Proofs.YtbplapkcleipiaaGreatDoor
open Go.ChangeShapes Go.WideShapes Go.ChangeAt Go.RowKit

def PjR (S : Nat → Prop) (W1 : World) (es : List X) (ex : List Int) (l : List R) (v i : Value) (wr : World) : Prop := ∃ k : Nat, k ≤ l.length ∧ i = .int .i64 k ∧ OwnQ S W1 wr v (prjL es ex (l.take k))
theorem prj_step (es : List X) (ex : List Int) (l : List R) (k : Nat) (h : k < l.length) : prjL es ex (l.take (k + 1)) = prjL es ex (l.take k) ++ [⟨valL es ex l[k].v, l[k].t⟩] := by
  unfold prjL
  rw [List.take_succ_eq_append_getElem h, List.map_append]
  rfl
theorem prj_len (es : List X) (ex : List Int) (l : List R) : (prjL es ex l).length = l.length := List.length_map _
set_option maxHeartbeats 4000000 in
set_option maxRecDepth 100000 in
theorem prj_prg (S : Nat → Prop) (es : List X) (ex : List Int) (l : List R) (a2 a3 a4 : Option Addr) (n2 n3 n4 c2 c3 c4 : Nat) (ve vx vr : Value) (w : World) (hl : RdG w ve es) (hxx : RdG w vx ex) (hr : RdR S w vr l) (hU : Up S w) (hs : es.length ≤ 1000) (hx : OkX es) (ho : OkRs l) (hll : l.length ≤ 1000000) (he : ex.length ≤ 1000000) :
    Calls Tryz.prog 67 #[eaV ve (.slice a2 n2 c2) (.slice a3 n3 c3) (.slice a4 n4 c4), vx, vr] w (RoP S w (prjL es ex l)) := by
  have HH := Lib.hid (fun (row : List V) vv w' (hE : Ext w w') (hr : RdG w' vv row) (ho : OkR row) => all_prg es ex row a2 a3 a4 n2 n3 n4 c2 c3 c4 ve vx vv w' (hl.ext hE) (hxx.ext hE) hr hs hx ho he)
  obtain ⟨ad, cap, rfl, _, _⟩ := hl.shape
  obtain ⟨xd0, xcap, rfl, _, _⟩ := hxx.shape
  obtain ⟨ps, h1, h2, h3, rfl⟩ := hr
  obtain ⟨bd, bcap, rfl, b1, b2⟩ := h1.shape
  have HP := Lib.hid h1
  have HF := Lib.hid h3
  have HU := Lib.hid hU
  have HO := Lib.hid ho
  have HLL := Lib.hid hll
  clear hl h1 h2 h3 hs hx ho hU hll hxx he
  obtain ⟨n, hn⟩ : ∃ n, n = es.length := ⟨_, rfl⟩
  obtain ⟨u, hu⟩ : ∃ u, u = ex.length := ⟨_, rfl⟩
  obtain ⟨t, ht⟩ : ∃ t, t = ps.length := ⟨_, rfl⟩
  have HT := Lib.hid ht
  rw [← hn, ← hu] at HH ⊢
  rw [← ht] at HP b1 ⊢
  clear hn ht hu
  unfold maxLen at b2
  obtain ⟨W1, hW⟩ : ∃ W1, W1 = w.alloc (.cells #[.slice ad n cap, .slice a2 n2 c2, .slice a3 n3 c3, .slice a4 n4 c4] 111) := ⟨_, rfl⟩
  have HW := Lib.hid (show Ext w W1 by rw [hW]; exact (Ext.refl _).alloc _ _)
  have HBX := Lib.hid (show Bxn w.heap.size [.slice ad n cap, .slice a2 n2 c2, .slice a3 n3 c3, .slice a4 n4 c4] W1 by rw [hW]; exact Bxn.new w _ _)
  have hW' := Lib.hid hW
  clear hW
  go_enter Tryz.func67, Tryz.ntmps67
  go_wp2_with fail
  go_loopw [7, 12] (PjR S W1 es ex (rows ps)) (fun _ i _ => t - (intOf i).toNat)
  case atStart => exact ⟨0, Nat.zero_le _, rfl, by rw [← hW'.out]; exact OwnQ.nil S (Ext.refl _)⟩
  case round =>
    obtain ⟨k, hk, rfl, hO⟩ := hrel
    rw [rows_len] at hk
    have hkt : k ≤ t := by rw [HT.out]; exact hk
    have hEw := Lib.hid (HW.out.trans hO.old)
    have HBr := Lib.hid (HBX.out.ext hO.old)
    by_cases hlt : k < t
    · have hlt' : k < ps.length := by rw [← HT.out]; exact hlt
      have hlr : k < (rows ps).length := by rw [rows_len]; exact hlt'
      obtain ⟨g, o, rfl, d0', d1'⟩ := rd_P HP.out k hlt'
      have d0 := hEw.out.keeps d0'
      have d1 := hEw.out.keeps d1'
      clear d0' d1'
      have hst := prj_step es ex (rows ps) k hlr
      rw [rows_at ps k hlt'] at hst
      have hfi := HF.out ps[k] (List.getElem_mem _)
      have hok := HO.out ps[k].r (List.mem_map_of_mem (List.getElem_mem _))
      have hpl : (prjL es ex ((rows ps).take k)).length ≤ 1000000 := by rw [prj_len, List.length_take]; have := HLL.out; omega
      generalize ps[k] = x at *
      obtain ⟨⟨xa, xn, xc, xb, xm, xd⟩, xr⟩ := x
      simp only [Hd.x, Hd.y] at d0 d1 hfi hst hok
      obtain ⟨w0, hw0⟩ : ∃ w0, w0 = wr.alloc (.cells #[.slice xa xn xc, .slice xb xm xd] 51) := ⟨_, rfl⟩
      have EX := Lib.hid (show Ext wr w0 by rw [hw0]; exact (Ext.refl wr).alloc _ _)
      have HHH := Lib.hid (fun w' (hE : Ext w0 w') => (HH.out xr.v _ w' (hEw.out.trans (EX.out.trans hE)) (hfi.1.1.ext (hEw.out.trans (EX.out.trans hE))) hok).mono (R' := fun e w'' => ∃ v, e = .returned v ∧ OwnG tV.e w0 w'' v (valL es ex xr.v) ∧ Ext w0 w'') (by rintro _ _ ⟨v, rfl, hO⟩; exact ⟨v, rfl, hO.base hE, hE.trans hO.2⟩))
      simp only [Hd.x] at HHH
      have HFI := Lib.hid hfi
      have HST := Lib.hid hst
      have HL := Lib.hid hlt'
      have HPL := Lib.hid hpl
      obtain ⟨vals, hvals⟩ : ∃ vals, vals = valL es ex xr.v := ⟨_, rfl⟩
      rw [← hvals] at HHH HST
      have p0 := ((HBr.out.ext EX.out).2 0 _ rfl).1
      have p1 := ((HBr.out.ext EX.out).2 1 _ rfl).1
      have p2 := ((HBr.out.ext EX.out).2 2 _ rfl).1
      have p3 := ((HBr.out.ext EX.out).2 3 _ rfl).1
      have m0 : w0.cell? ⟨wr.heap.size, 0, none⟩ = some (.slice xa xn xc) := by rw [hw0]; exact al0 _ _ _ _
      have m1 : w0.cell? ⟨wr.heap.size, 1, none⟩ = some (.slice xb xm xd) := by rw [hw0]; exact al1 _ _ _ _
      have hs0 := HBr.out.1
      obtain ⟨qs, hq1, hq2, hq3⟩ := hO
      have hql : qs.length ≤ 1000000 := by have e := rows_len qs; rw [hq3] at e; have := HPL.out; omega
      have HQ1 := Lib.hid hq1
      have HQ2 := Lib.hid hq2
      have HQ3 := Lib.hid hq3
      have HQL := Lib.hid hql
      have HQB := Lib.hid (fun kk hh => hq1.lt kk hh)
      have HQW := Lib.hid (fun kk hh => (hq1.blk kk hh).1)
      have HW0 := Lib.hid hw0
      have HBl := Lib.hid HBX.out.1
      have KP0 := Lib.hid p0
      have KP1 := Lib.hid p1
      have KP2 := Lib.hid p2
      have KP3 := Lib.hid p3
      have KM0 := Lib.hid m0
      have KM1 := Lib.hid m1
      obtain ⟨vn, hvn⟩ : ∃ vn, vn = vals.length := ⟨_, rfl⟩
      have HVN := Lib.hid hvn
      clear hfi hok hpl hst hvals hq1 hq2 hq3 hql hw0 hvn
      go_wp2_with fail
      rw [← HW0.out]
      go_region_held3 (fun w' => w'.cell? ⟨w.heap.size, 0, none⟩ = some (.slice ad n cap) ∧ w'.cell? ⟨w.heap.size, 1, none⟩ = some (.slice a2 n2 c2) ∧ w'.cell? ⟨w.heap.size, 2, none⟩ = some (.slice a3 n3 c3) ∧ w'.cell? ⟨w.heap.size, 3, none⟩ = some (.slice a4 n4 c4) ∧ w'.cell? ⟨wr.heap.size, 0, none⟩ = some (.slice xa xn xc) ∧ w'.cell? ⟨wr.heap.size, 1, none⟩ = some (.slice xb xm xd))
        (first | exact ⟨KP0.out, KP1.out, KP2.out, KP3.out, KM0.out, KM1.out⟩ | exact ⟨f0, f1, f2, f3, f4, f5⟩ | exact ⟨r0, r1, r2, r3, r4, r5⟩ | go_keep)
        (first
          | (go_at_call 97; refine (HHH.out _ ?_).mono ?_; (first | exact Ext.refl _ | exact (Ext.refl _).drew); rintro e w3 ⟨v3, rfl, hO3, e3⟩; obtain ⟨a3', c3', hv3, _, _⟩ := hO3.rd.shape; rw [← HVN.out] at hv3; subst hv3; have f0 := e3.keeps KP0.out; have f1 := e3.keeps KP1.out; have f2 := e3.keeps KP2.out; have f3 := e3.keeps KP3.out; have f4 := e3.keeps KM0.out; have f5 := e3.keeps KM1.out; have HO3 := Lib.hid hO3; have HE3 := Lib.hid e3; clear hO3 e3)
          | (refine step_appG tP rfl _ _ rfl W1 _ qs rfl ?a1 _ [⟨⟨a3', vn, c3', xb, xm, xd⟩, ⟨vals, xr.t⟩⟩] rfl ?a2 ?a3 ?_; (have z1 := HQ1.out.ext (EX.out.trans (HE3.out.alloc #[.slice a3' vn c3', .slice xb xm xd] 51)); case a1 => exact z1); (have z2 := rd_litG w3 [(⟨⟨a3', vn, c3', xb, xm, xd⟩, ⟨vals, xr.t⟩⟩ : P)] #[.slice a3' vn c3', .slice xb xm xd] 51 _ 1 rfl rfl (by simp) rfl; case a2 => exact z2); (case a3 => have := HQL.out; simp; omega); intro v5 w5 hO5 hg5; have hx1 := (Ext.refl w3).alloc #[.slice a3' vn c3', .slice xb xm xd] 51; have r0 := grow_cell hg5 (hx1.keeps f0) (fun kk hh => by have := HQW.out kk hh; have := HBl.out; omega); have r1 := grow_cell hg5 (hx1.keeps f1) (fun kk hh => by have := HQW.out kk hh; have := HBl.out; omega); have r2 := grow_cell hg5 (hx1.keeps f2) (fun kk hh => by have := HQW.out kk hh; have := HBl.out; omega); have r3 := grow_cell hg5 (hx1.keeps f3) (fun kk hh => by have := HQW.out kk hh; have := HBl.out; omega); have r4 := grow_cell hg5 (hx1.keeps f4) (fun kk hh => by have := HQB.out kk hh; omega); have r5 := grow_cell hg5 (hx1.keeps f5) (fun kk hh => by have := HQB.out kk hh; omega)))
      all_goals
        go_wp2_with fail
        go_roundw
        case rel =>
          refine ⟨k + 1, by rw [rows_len]; exact HL.out, by go_num, ?_⟩
          rw [HST.out]
          have hx1 := (Ext.refl w3).alloc #[.slice a3' vn c3', .slice xb xm xd] 51
          have hx2 := EX.out.trans (HE3.out.trans hx1)
          refine OwnQ.app (qs := [⟨⟨a3', vn, c3', xb, xm, xd⟩, ⟨vals, xr.t⟩⟩]) (HQ1.out.ext hx2) (fun p hp => (HQ2.out p hp).ext hx2) HQ3.out (fun p hp => ?_) hO5 hg5
          simp only [List.mem_singleton] at hp; subst hp
          have hl3 := HFI.out.1.2.ext (hEw.out.trans hx2)
          have hof : Off tP.e W1 (w3.alloc (.cells #[.slice a3' vn c3', .slice xb xm xd] 51)) (.slice xb xm xd) := off_old (HFI.out.1.2.ext HW.out)
          exact ⟨⟨⟨HO3.out.rd.ext hx1, hl3⟩, (HO3.out.ext hx1).off (by decide), hof⟩, HO3.out.inn (HU.out.ext (hEw.out.trans EX.out)), HFI.out.2.2⟩
        case measure => simp [intOf]; omega
    · have hke : (rows ps).take k = rows ps := List.take_of_length_le (by rw [rows_len]; have := HT.out; omega)
      rw [hke] at hO
      have HO := Lib.hid hO
      clear hke hO
      go_wp2_with fail
      go_ret
      exact HO.out.roP HW.out (HU.out.ext HW.out)
end Go.Proofs.YtbplapkcleipiaaGreatDoor
/- Two lineages merged: the program's MergeLineage. -/
namespace Go.Proofs.YtbplapkcleipiaaGreatDoor
open Go.ChangeShapes Go.WideShapes Go.ChangeAt Go.RowKit

/-- two lineages merged -/
def mlL (a b : List Int) : List Int := Lib.compact ((a ++ b).mergeSort fun x y => decide (x ≤ y))
theorem mlL_asc (a b : List Int) : Asc (mlL a b) := (sort_cut (a ++ b)).1
theorem mlL_mem (a b : List Int) (c : Int) : c ∈ mlL a b ↔ c ∈ a ∨ c ∈ b := ((sort_cut (a ++ b)).2 c).trans List.mem_append
theorem mlL_len (a b : List Int) : (mlL a b).length ≤ a.length + b.length := Nat.le_trans (comp_len _) (by rw [List.length_mergeSort, List.length_append]; exact Nat.le_refl _)
theorem mlL_comm (a b : List Int) : mlL b a = mlL a b := asc_unique _ _ (mlL_asc _ _) (mlL_asc _ _) fun c => by rw [mlL_mem, mlL_mem]; exact Or.comm
theorem mlL_assoc (a b c : List Int) : mlL a (mlL b c) = mlL (mlL a b) c := asc_unique _ _ (mlL_asc _ _) (mlL_asc _ _) fun x => by rw [mlL_mem, mlL_mem, mlL_mem, mlL_mem]; exact or_assoc.symm
theorem mlL_idem (a b : List Int) : mlL (mlL a b) (mlL a b) = mlL a b := asc_unique _ _ (mlL_asc _ _) (mlL_asc _ _) fun x => by rw [mlL_mem]; exact or_self_iff
theorem mlq (a b : List Int) (va vb : Value) (w : World) (ha : RdG w va a) (hb : RdG w vb b) (hl : a.length + b.length ≤ 100000000) : Calls Tryz.prog 24 #[va, vb] w fun e w' => ∃ v, e = .returned v ∧ RdG w' v (mlL a b) ∧ Ext w w' :=
  (ml_prg a b va vb w ha hb hl).mono fun _ _ ⟨v, cs, he, hr, hE, hA, hM, _⟩ => ⟨v, he, by
    rw [show mlL a b = cs from asc_unique _ _ (mlL_asc a b) hA fun c => by rw [mlL_mem, hM]]
    exact hr, hE⟩
end Go.Proofs.YtbplapkcleipiaaGreatDoor
/- slices.Compact hands back a row of the call's own. -/
namespace Go.Proofs.YtbplapkcleipiaaGreatDoor
open Go.ChangeShapes Go.WideShapes Go.ChangeAt Go.RowKit

theorem cut_O (e : TypeId) (W w : World) (v : Value) (l : List Int) (hO : OwnG e W w v l) (hlen : l.length ≤ 100000000) :
    Calls Tryz.prog 43 #[v] w fun e' w' => ∃ v', e' = .returned v' ∧ OwnG e W w' v' (Lib.compact l) := by
  rcases hO.1.2 with ⟨rfl, h0⟩ | ⟨g, cap, cur, rfl, hb, hg, hnc, hcm, hcs, htake⟩
  · refine (Tryz.slices_Compact_int_empty none 0 w).mono ?_
    rintro e w' ⟨rfl, rfl⟩
    obtain rfl : l = [] := List.eq_nil_of_length_eq_zero h0
    exact ⟨_, rfl, OwnG.nil _ _ _ hO.2⟩
  · refine (Tryz.slices_Compact_int g 0 cap l w (holdsI hO) (by omega) hnc).mono ?_
    rintro e w' ⟨rfl, q, rfl⟩
    have hle : (Lib.compact l).length ≤ l.length := by unfold Lib.compact Lib.compactUpTo; rw [List.length_map]; exact Nat.le_trans (List.length_filter_le _ _) (by simp)
    have hl : (Lib.compact l ++ List.replicate (l.length - (Lib.compact l).length) 0).length = l.length := by simp; omega
    have := own_put0 hO hl q
    refine ⟨_, rfl, ?_⟩
    have h2 := OwnG.take this (Lib.compact l).length (by rw [hl]; exact hle)
    rw [List.take_left'] at h2
    · exact h2
    · rfl
end Go.Proofs.YtbplapkcleipiaaGreatDoor
/- MergeLineage, of the program: what it hands back is its own. -/
namespace Go.Proofs.YtbplapkcleipiaaGreatDoor
open Go.ChangeShapes Go.WideShapes Go.ChangeAt Go.RowKit

/-- two lineages merged -/
theorem ml_own (a b : List Int) (va vb : Value) (w : World) (ha : RdG w va a) (hb : RdG w vb b) (hl : a.length + b.length ≤ 100000000) : Calls Tryz.prog 24 #[va, vb] w fun e w' => ∃ v, e = .returned v ∧ OwnG tI.e w w' v (linL (a ++ b)) := by
  have HA := Lib.hid ha
  have HB := Lib.hid hb
  have HL := Lib.hid hl
  obtain ⟨ada, capa, rfl, _⟩ := ha.shape
  obtain ⟨adb, capb, rfl, _⟩ := hb.shape
  clear ha hb hl
  go_enter Tryz.func24, Tryz.ntmps24
  go_wp2_with fail
  refine (concat_I a b _ _ _ _ (HA.out.ext ((Ext.refl _).alloc _ _)) (HB.out.ext ((Ext.refl _).alloc _ _)) (al0 _ _ _ _) (al1 _ _ _ _) HL.out).mono ?_
  rintro e w1 ⟨v1, rfl, hO⟩
  have hlen : (a ++ b).length ≤ 100000000 := by rw [List.length_append]; exact HL.out
  have HO := Lib.hid hO
  have HLN := Lib.hid hlen
  clear hO hlen
  go_wp2_with fail
  refine (sort_I tI.e _ w1 v1 (a ++ b) HO.out HLN.out).mono ?_
  rintro e w2 ⟨rfl, hO2⟩
  have HO2 := Lib.hid hO2
  clear hO2
  go_wp2_with fail
  refine (cut_O tI.e _ w2 v1 _ HO2.out (by rw [List.length_mergeSort]; exact HLN.out)).mono ?_
  rintro e w3 ⟨v3, rfl, hR⟩
  have HR := Lib.hid hR
  clear hR
  go_wp2_with fail
  go_ret
  exact ⟨_, rfl, HR.out.base ((Ext.refl w).alloc _ _)⟩
end Go.Proofs.YtbplapkcleipiaaGreatDoor
/- Evaluating a query, of the program: the partners of a row. -/
namespace Go.Proofs.YtbplapkcleipiaaGreatDoor
open Go.ChangeShapes Go.WideShapes Go.ChangeAt Go.RowKit

theorem Fine.out {S : Nat → Prop} {W w w' : World} {q : P} {b : Option Nat} (h : Fine S W w q) (k : Grw w w' b) (hx : In (fun g => some g ≠ b) q.h.x) (hy : In (fun g => some g ≠ b) q.h.y) : Fine S W w' q := by
  have key : ∀ u : Value, Off tP.e W w u → In (fun g => some g ≠ b) u → Off tP.e W w' u := fun u ho hi g hg hl => by
    rcases ho g hg hl with h | ⟨cur, e', fr, h1, h2⟩
    · exact .inl h
    · exact .inr ⟨cur, e', fr, by rw [k.block g (Array.getElem?_eq_some_iff.1 h1).1 (hi g hg hl)]; exact h1, h2⟩
  exact ⟨⟨⟨h.1.1.1.out k hx, h.1.1.2.out k hy⟩, key _ h.1.2.1 hx, key _ h.1.2.2 hy⟩, h.2⟩
/-- .. that avoids a block -/
def FineV (S : Nat → Prop) (W w : World) (b : Option Nat) (q : P) : Prop := Fine S W w q ∧ In (fun g => some g ≠ b) q.h.x ∧ In (fun g => some g ≠ b) q.h.y
theorem FineV.ext {S : Nat → Prop} {W w w' : World} {b : Option Nat} {q : P} (h : FineV S W w b q) (e : Ext w w') : FineV S W w' b q := ⟨h.1.ext e, h.2⟩
theorem FineV.next {S : Nat → Prop} {W w w' : World} {v v' : Value} {q : P} (h : FineV S W w v.ownBlock q) (k : Grw w w' v.ownBlock) (hl : Loc w v v') : FineV S W w' v'.ownBlock q := by
  have key : ∀ (u : Value) (hlt : ∀ g, u.ownBlock = some g → lenOf u ≠ 0 → g < w.heap.size), In (fun g => some g ≠ v.ownBlock) u → In (fun g => some g ≠ v'.ownBlock) u := fun u hlt hi g hg hl0 e => by
    rcases hl with hl | ⟨g', hg', hle⟩
    · rw [hl] at e; exact hi g hg hl0 e
    · rw [hg'] at e; injection e with e; have := hlt g hg hl0; omega
  exact ⟨h.1.out k h.2.1 h.2.2, key _ (fun g => h.1.1.1.1.lt g) h.2.1, key _ (fun g => h.1.1.1.2.lt g) h.2.2⟩
theorem OwnG.apart {α β : Type} [Enc α] [Enc β] {e e' : TypeId} {W W' w : World} {u v : Value} {l : List α} {m : List β} (h : OwnG e W w u l) (k : OwnG e' W' w v m) (hne : e ≠ e') : u.ownBlock = none ∨ u.ownBlock ≠ v.ownBlock := by
  cases hu : u.ownBlock with
  | none => exact .inl rfl
  | some g =>
    refine .inr fun e1 => ?_
    obtain ⟨_, c1, h1⟩ := h.blk g hu
    obtain ⟨_, c2, h2⟩ := k.blk g e1.symm
    rw [h1] at h2
    injection h2 with h2
    injection h2 with _ h2
    exact hne h2
/-- another row of the call's own grows -/
theorem OwnG.other {α : Type} [Enc α] {e : TypeId} {W w w' : World} {v : Value} {l : List α} {b : Option Nat} (h : OwnG e W w v l) (k : Grw w w' b) (hb : ∀ g, b = some g → W.heap.size ≤ g) (hs : v.ownBlock = none ∨ v.ownBlock ≠ b) : OwnG e W w' v l :=
  ⟨owns_grw h.1 k hs, ext_grw h.2 k hb⟩
theorem RowBlk.elder {e : TypeId} {W B w : World} {b : Option Nat} (h : RowBlk e W w b) (k : B.heap.size ≤ W.heap.size) : RowBlk e B w b := fun g hg => ⟨Nat.le_trans k (h g hg).1, (h g hg).2⟩
theorem Bxn.grw {b : Nat} {l : List Value} {w w' : World} {row : Option Nat} (h : Bxn b l w) (k : Grw w w' row) (hr : some b ≠ row) : Bxn b l w' :=
  ⟨Nat.lt_of_lt_of_le h.1 k.size, fun j v hj => ⟨by rw [World.cell?_of_block (k.block b h.1 hr)]; exact (h.2 j v hj).1, by rw [World.frozen?_of_block (k.block b h.1 hr)]; exact (h.2 j v hj).2⟩⟩
theorem par_step (es : List X) (p : Int) (r : R) (l : List R) (k : Nat) (h : k < l.length) : parL es p r (l.take (k + 1)) = parL es p r (l.take k) ++ if hldB es p (r.v ++ l[k].v) = true then [⟨r.v ++ l[k].v, linL (r.t ++ l[k].t)⟩] else [] := by
  unfold parL
  rw [List.take_succ_eq_append_getElem h, List.filter_append, List.map_append, List.filter_cons]
  split <;> simp
theorem par_len (es : List X) (p : Int) (r : R) (l : List R) : (parL es p r l).length ≤ l.length := by unfold parL; rw [List.length_map]; exact List.length_filter_le _ _
theorem okR_app {a b : List V} (h : OkR a) (k : OkR b) : OkR (a ++ b) := fun v hv => by
  rcases List.mem_append.1 hv with hv | hv
  · exact h v hv
  · exact k v hv
/-- widths that are not too large -/
def Wid (l : List R) : Prop := ∀ r ∈ l, r.v.length ≤ 1000 ∧ r.t.length ≤ 10000000
def PaR (S : Nat → Prop) (B W1 : World) (es : List X) (p : Int) (r : R) (l : List R) (vp vv i : Value) (wr : World) : Prop :=
  ∃ (k : Nat) (x : List V), k ≤ l.length ∧ i = .int .i64 k ∧ OwnG tV.e W1 wr vv (r.v ++ x) ∧ ∃ qs : List P, OwnG tP.e W1 wr vp qs ∧ (∀ q ∈ qs, FineV S B wr vv.ownBlock q) ∧ rows qs = parL es p r (l.take k)
set_option maxHeartbeats 8000000 in
set_option maxRecDepth 100000 in
theorem par_prg (S : Nat → Prop) (B : World) (es : List X) (p : Int) (r : R) (l : List R) (a2 a3 a4 : Option Addr) (n2 n3 n4 c2 c3 c4 : Nat) (ve va vt vo : Value) (w : World) (hl : RdG w ve es) (hra : RdG w va r.v) (hrt : RdG w vt r.t) (hr : RdR S w vo l) (hU : Up S w)
    (hs : es.length ≤ 1000) (hx : OkX es) (hor : OkR r.v) (ho : OkRs l) (hll : l.length ≤ 1000000) (hwr : r.v.length ≤ 1000 ∧ r.t.length ≤ 10000000) (hw : Wid l) (hB : Ext B w) :
    Calls Tryz.prog 98 #[eaV ve (.slice a2 n2 c2) (.slice a3 n3 c3) (.slice a4 n4 c4), .int .i64 p, .agg #[va, vt], vo] w fun e w' => ∃ v qs, e = .returned v ∧ OwnG tP.e w w' v qs ∧ (∀ q ∈ qs, Fine S B w' q) ∧ rows qs = parL es p r l := by
  have HH := Lib.hid (fun (row : List V) vv w' (hE : Ext w w') (hr : RdG w' vv row) (ho : OkR row) => holds_prg es p row a2 a3 a4 n2 n3 n4 c2 c3 c4 ve vv w' (hl.ext hE) hr hs hx ho)
  have HCA := Lib.hid (fun w' (hE : Ext w w') => clone_V r.v va w' (hra.ext hE) (by omega))
  obtain ⟨ad, cap, rfl, _, _⟩ := hl.shape
  obtain ⟨ra, rcap, rfl, ra1, ra2⟩ := hra.shape
  obtain ⟨rt, tcap, rfl, rt1, rt2⟩ := hrt.shape
  obtain ⟨ps, h1, h2, h3, rfl⟩ := hr
  obtain ⟨bd, bcap, rfl, b1, b2⟩ := h1.shape
  have HP := Lib.hid h1
  have HF := Lib.hid h3
  have HU := Lib.hid hU
  have HO := Lib.hid ho
  have HLL := Lib.hid hll
  have HRT := Lib.hid hrt
  have HOR := Lib.hid hor
  have HWR := Lib.hid hwr
  have HWD := Lib.hid hw
  clear hl h1 h2 h3 hs hx ho hU hll hra hrt hor hwr hw
  obtain ⟨n, hn⟩ : ∃ n, n = es.length := ⟨_, rfl⟩
  obtain ⟨t, ht⟩ : ∃ t, t = ps.length := ⟨_, rfl⟩
  obtain ⟨rn, hrn⟩ : ∃ rn, rn = r.v.length := ⟨_, rfl⟩
  obtain ⟨rm, hrm⟩ : ∃ rm, rm = r.t.length := ⟨_, rfl⟩
  have HT := Lib.hid ht
  have HRN := Lib.hid hrn
  rw [← hn] at HH ⊢
  rw [← ht] at HP b1 ⊢
  rw [← hrn] at HCA ra1 ⊢
  rw [← hrm] at HRT rt1 ⊢
  clear hn ht hrn hrm
  unfold maxLen at b2 ra2 rt2
  obtain ⟨W1, hW⟩ : ∃ W1, W1 = (w.alloc (.cells #[.slice ad n cap, .slice a2 n2 c2, .slice a3 n3 c3, .slice a4 n4 c4] 111)).alloc (.cells #[.slice ra rn rcap, .slice rt rm tcap] 51) := ⟨_, rfl⟩
  have HW := Lib.hid (show Ext w W1 by rw [hW]; exact ((Ext.refl _).alloc _ _).alloc _ _)
  have HBX := Lib.hid (show Bxn w.heap.size [.slice ad n cap, .slice a2 n2 c2, .slice a3 n3 c3, .slice a4 n4 c4] W1 by rw [hW]; exact (Bxn.new w _ _).ext ((Ext.refl _).alloc _ _))
  have HBY := Lib.hid (show Bxn (w.heap.size + 1) [.slice ra rn rcap, .slice rt rm tcap] W1 by rw [hW, ← alsz w]; exact Bxn.new _ _ _)
  have HWS := Lib.hid (show W1.heap.size = w.heap.size + 2 by rw [hW]; simp)
  have hW' := Lib.hid hW
  have HBB := Lib.hid (show B.heap.size ≤ W1.heap.size from Nat.le_trans hB.2.2 (show Ext w W1 from by rw [hW]; exact ((Ext.refl _).alloc _ _).alloc _ _).2.2)
  clear hW hB
  go_enter Tryz.func98, Tryz.ntmps98
  go_wp2_with fail
  rw [← hW'.out]
  refine (HCA.out _ HW.out).mono ?_; rintro e w1 ⟨vv, rfl, hOv⟩
  have HOv := Lib.hid hOv
  clear hOv
  go_wp2_with fail
  go_loopw [9, 10, 18] (PaR S B W1 es p r (rows ps)) (fun _ _ i _ => t - (intOf i).toNat)
  case atStart => exact ⟨0, [], Nat.zero_le _, rfl, by rw [List.append_nil]; exact HOv.out, [], OwnG.nil _ _ _ HOv.out.2, fun q hq => (by cases hq), rfl⟩
  case round =>
    obtain ⟨k, x, hk, rfl, hV, qs, hQ, hF, hrw⟩ := hrel
    rw [rows_len] at hk
    have hkt : k ≤ t := by rw [HT.out]; exact hk
    have hEw := Lib.hid (HW.out.trans hV.2)
    by_cases hlt : k < t
    · have hlt' : k < ps.length := by rw [← HT.out]; exact hlt
      have hlr : k < (rows ps).length := by rw [rows_len]; exact hlt'
      obtain ⟨g, o, rfl, d0', d1'⟩ := rd_P HP.out k hlt'
      have d0 := hEw.out.keeps d0'
      have d1 := hEw.out.keeps d1'
      clear d0' d1'
      have hst := par_step es p r (rows ps) k hlr
      rw [rows_at ps k hlt'] at hst
      have hfi := HF.out ps[k] (List.getElem_mem _)
      have hok := HO.out ps[k].r (List.mem_map_of_mem (List.getElem_mem _))
      have hwd := HWD.out ps[k].r (List.mem_map_of_mem (List.getElem_mem _))
      have hpl : (parL es p r ((rows ps).take k)).length ≤ 1000000 := Nat.le_trans (par_len _ _ _ _) (by rw [List.length_take]; have := HLL.out; omega)
      generalize ps[k] = y at *
      obtain ⟨⟨xa, xn, xc, xb, xm, xd⟩, xr⟩ := y
      simp only [Hd.x, Hd.y] at d0 d1 hfi hst hok hwd
      obtain ⟨e1, _, _⟩ := (show RdG w (.slice xa xn xc) xr.v from hfi.1.1).len
      obtain ⟨e2, _, _⟩ := (show RdG w (.slice xb xm xd) xr.t from hfi.1.2).len
      subst e1 e2
      obtain ⟨w0, hw0⟩ : ∃ w0, w0 = wr.alloc (.cells #[.slice xa xr.v.length xc, .slice xb xr.t.length xd] 51) := ⟨_, rfl⟩
      have EX := Lib.hid (show Ext wr w0 by rw [hw0]; exact (Ext.refl wr).alloc _ _)
      have HBx := Lib.hid ((HBX.out.ext hV.2).ext EX.out)
      have HBy := Lib.hid ((HBY.out.ext hV.2).ext EX.out)
      have HBz := Lib.hid (show Bxn wr.heap.size [.slice xa xr.v.length xc, .slice xb xr.t.length xd] w0 by rw [hw0]; exact Bxn.new _ _ _)
      have HHH := Lib.hid (fun vv w' (hE : Ext w w') (hr : RdG w' vv (r.v ++ xr.v)) => HH.out (r.v ++ xr.v) vv w' hE hr (okR_app HOR.out hok))
      have HCV := Lib.hid (fun vv w4 w' (hE : Ext w4 w') (hr : RdG w4 vv (r.v ++ xr.v)) => (clone_V (r.v ++ xr.v) vv w' (hr.ext hE) (by rw [List.length_append]; have := HWR.out.1; omega)).mono (R' := fun e w'' => ∃ v, e = .returned v ∧ OwnG tV.e w4 w'' v (r.v ++ xr.v) ∧ Ext w4 w'') (by rintro _ _ ⟨v, rfl, hO⟩; exact ⟨v, rfl, hO.base hE, hE.trans hO.2⟩))
      have HML := Lib.hid (fun w4 w' (hE4 : Ext w w4) (hE : Ext w4 w') => (ml_own r.t xr.t _ _ w' (HRT.out.ext (hE4.trans hE)) (hfi.1.2.ext (hE4.trans hE)) (by have := HWR.out.2; omega)).mono (R' := fun e w'' => ∃ v, e = .returned v ∧ OwnG tI.e w4 w'' v (linL (r.t ++ xr.t)) ∧ Ext w4 w'') (by rintro _ _ ⟨v, rfl, hO⟩; exact ⟨v, rfl, hO.base hE, hE.trans hO.2⟩))
      simp only [Hd.y] at HML
      have HFI := Lib.hid hfi
      have HL := Lib.hid hlt'
      have HPL := Lib.hid hpl
      have HWDX := Lib.hid hwd
      have HQL := Lib.hid (show qs.length ≤ 1000000 by have e := rows_len qs; rw [hrw] at e; omega)
      obtain ⟨vva, vvc, hvv, vv1, vv2⟩ := hV.rd.shape
      subst hvv
      have hrnv : rn ≤ (r.v ++ x).length := by rw [List.length_append, HRN.out]; omega
      have HV0 := Lib.hid (show OwnG tV.e W1 w0 (.slice vva rn vvc) r.v by
        have := (hV.ext EX.out).take rn hrnv
        rw [show (r.v ++ x).take rn = r.v by rw [HRN.out]; exact List.take_left] at this
        exact this)
      have hvrn : rn ≤ vvc := Nat.le_trans hrnv vv1
      obtain ⟨vm, hvm⟩ : ∃ vm, vm = (r.v ++ x).length := ⟨_, rfl⟩
      rw [← hvm] at vv1 hV hF
      have HQ0 := Lib.hid (hQ.ext EX.out)
      have HF0 := Lib.hid (fun q hq => (own_len vva vm rn vvc ▸ (hF q hq).ext EX.out : FineV S B w0 (Value.slice vva rn vvc).ownBlock q))
      have HAP := Lib.hid (own_len vva vm rn vvc ▸ ((hQ.ext EX.out).apart (hV.ext EX.out) (by decide)) : u9.ownBlock = none ∨ u9.ownBlock ≠ (Value.slice vva rn vvc).ownBlock)
      have hob := own_len vva vm rn vvc
      have HVB := Lib.hid (fun kk (hh : (Value.slice vva rn vvc).ownBlock = some kk) => hV.lt kk (hob.trans hh))
      have HVPB := Lib.hid (fun kk hh => hQ.lt kk hh)
      have HVW := Lib.hid (fun kk (hh : (Value.slice vva rn vvc).ownBlock = some kk) => (hV.blk kk (hob.trans hh)).1)
      have HRW := Lib.hid hrw
      have HST := Lib.hid hst
      have HW0 := Lib.hid hw0
      have hbs := HBx.out.1
      have hszw : w.heap.size + 1 < wr.heap.size := by have := hV.2.2.2; have := HWS.out; omega
      have KY0 := Lib.hid (HBy.out.2 0 _ rfl).1
      have KZ0 := Lib.hid (HBz.out.2 0 _ rfl).1
      obtain ⟨xn, hxn⟩ : ∃ xn, xn = xr.v.length := ⟨_, rfl⟩
      obtain ⟨xm, hxm⟩ : ∃ xm, xm = xr.t.length := ⟨_, rfl⟩
      rw [← hxn] at d0 KZ0 HBz HW0
      rw [← hxm] at d1 HBz HW0 HML
      have HFX := Lib.hid (show RdG w0 (.slice xa xn xc) xr.v by rw [hxn]; exact HFI.out.1.1.ext (hEw.out.trans EX.out))
      clear hfi hok hpl hst hwd hQ hF hrw hV hw0 hvm hxn hxm hrnv
      unfold maxLen at vv2
      go_wp2_with fail
      rw [← HW0.out]
      go_region_held3 (fun w' => w'.cell? ⟨w.heap.size + 1, 0, none⟩ = some (.slice ra rn rcap) ∧ w'.cell? ⟨wr.heap.size, 0, none⟩ = some (.slice xa xn xc))
        (first | exact ⟨KY0.out, KZ0.out⟩ | exact ⟨r0, r1⟩ | go_keep)
        (first
          | (refine step_appGL tV rfl _ _ rfl W1 (.slice vva rn vvc) r.v rfl ?a1 _ xr.v rfl ?a2 ?a3 ?_; (have z1 := HV0.out; have z2 := HV0.out.ext (Ext.refl w0).drew; case a1 => first | exact z1 | exact z2); (have z3 := HFX.out; have z4 := HFX.out.ext (Ext.refl w0).drew; case a2 => first | exact z3 | exact z4); (case a3 => have := HWDX.out.1; have := HWR.out.1; omega); intro v3 w3 hO3 hg3 hl3; have r0 := grow_cell hg3 KY0.out (fun kk hh => by have := HVW.out kk hh; have := HWS.out; omega); have r1 := grow_cell hg3 KZ0.out (fun kk hh => by have := HVB.out kk hh; omega)))
      all_goals
        have hgr : Grw w0 w3 (Value.slice vva rn vvc).ownBlock := ⟨hg3.os, hg3.output, hg3.size, hg3.block⟩
        have hll3 : Loc w0 (.slice vva rn vvc) v3 := hl3
        obtain ⟨v3a, v3n, v3c, hv3, hv3n⟩ : ∃ v3a v3n v3c, v3 = .slice v3a v3n v3c ∧ v3n = (r.v ++ xr.v).length := by obtain ⟨a, b, e, _⟩ := hO3.rd.shape; exact ⟨a, _, b, e, rfl⟩
        subst hv3
        have hbb : ∀ q, (Value.slice vva rn vvc).ownBlock = some q → q < wr.heap.size ∧ W1.heap.size ≤ q := fun q hq => ⟨HVB.out q hq, HVW.out q hq⟩
        have hB3 := HBx.out.grw hgr (fun e => by have h := hbb _ e.symm; have := HWS.out; omega)
        have hY3 := HBy.out.grw hgr (fun e => by have h := hbb _ e.symm; have := HWS.out; omega)
        have hZ3 := HBz.out.grw hgr (fun e => by have h := hbb _ e.symm; omega)
        have u0 := (hB3.2 0 _ rfl).1
        have u1 := (hB3.2 1 _ rfl).1
        have u2 := (hB3.2 2 _ rfl).1
        have u3 := (hB3.2 3 _ rfl).1
        have su := hB3.1
        have sz := hZ3.1
        have HY3 := Lib.hid hY3
        have HZ3 := Lib.hid hZ3
        have HF3 := Lib.hid (fun q hq => (HF0.out q hq).next hgr hll3)
        have HQ3 := Lib.hid (HQ0.out.other hgr (fun q hq => (hbb q hq).2) HAP.out)
        have HO3 := Lib.hid hO3
        have HV3N := Lib.hid hv3n
        have HH3 := Lib.hid (fun w' (hE : Ext w3 w') => (HHH.out (.slice v3a v3n v3c) w' ((HW.out.trans hO3.2).trans hE) (hO3.rd.ext hE)).mono (R' := fun e w'' => e = .returned (.bool (hldB es p (r.v ++ xr.v))) ∧ Ext w' w'') (fun _ _ h => h))
        clear hB3 hY3 hZ3 hbb hgr hll3 hl3 hg3 hO3 hv3n r0 r1
        cases hb : hldB es p (r.v ++ xr.v) with
        | false =>
          have HST2 := HST.out
          rw [hb, if_neg (by simp), List.append_nil] at HST2
          have HH4 := HH3.out
          rw [hb] at HH4
          have HST3 := Lib.hid HST2
          have HH5 := Lib.hid HH4
          clear HST2 HH4 hb
          go_wp2_with fail
          refine (HH5.out _ (Ext.refl _)).mono ?_; rintro e w4 ⟨rfl, hE4⟩
          go_wp2_with fail
          go_roundw
          case rel => exact ⟨k + 1, xr.v, by rw [rows_len]; exact HL.out, by go_num, HO3.out.ext hE4, qs, HQ3.out.ext hE4, fun q hq => (HF3.out q hq).ext hE4, by rw [HST3.out]; exact HRW.out⟩
          case measure => simp [intOf]; omega
        | true =>
          have HST2 := HST.out
          rw [hb, if_pos rfl] at HST2
          have HH4 := HH3.out
          rw [hb] at HH4
          have HST3 := Lib.hid HST2
          have HH5 := Lib.hid HH4
          clear HST2 HH4 hb
          go_wp2_with fail
          refine (HH5.out _ (Ext.refl _)).mono ?_; rintro e w4 ⟨rfl, hE4⟩
          have HE4 := Lib.hid hE4
          have K0 := Lib.hid ((HY3.out.ext hE4).2 1 _ rfl).1
          have K1 := Lib.hid ((HZ3.out.ext hE4).2 1 _ rfl).1
          have hs4 := (HZ3.out.ext hE4).1
          have hs4' := (HY3.out.ext hE4).1
          have HC4 := Lib.hid (fun w' (hE : Ext w4 w') => HCV.out (.slice v3a v3n v3c) w4 w' hE (HO3.out.rd.ext hE4))
          have HEW4 := Lib.hid (HW.out.trans (HO3.out.2.trans hE4))
          have HQW3 := Lib.hid (fun kk hh => (HQ3.out.blk kk hh).1)
          have HQ4 := Lib.hid (HQ3.out.ext hE4)
          clear hE4
          go_wp2_with fail
          go_region_held3 (fun w' => w'.cell? ⟨w.heap.size + 1, 1, none⟩ = some (.slice rt rm tcap) ∧ w'.cell? ⟨wr.heap.size, 1, none⟩ = some (.slice xb xm xd))
            (first | exact ⟨K0.out, K1.out⟩ | exact ⟨f0, f1⟩ | exact ⟨g0, g1⟩ | exact ⟨r0, r1⟩ | go_keep)
            (first
              | (go_at_call 57; refine (HC4.out _ ?_).mono ?_; (first | exact Ext.refl _ | exact (Ext.refl _).drew); rintro e w5 ⟨v5, rfl, hO5, e5⟩; obtain ⟨v5a, v5n, v5c, hv5⟩ : ∃ v5a v5n v5c, v5 = .slice v5a v5n v5c := (by obtain ⟨a, b, e, _⟩ := hO5.rd.shape; exact ⟨a, _, b, e⟩); subst hv5; have f0 := e5.keeps K0.out; have f1 := e5.keeps K1.out; have HO5 := Lib.hid hO5; have HE5 := Lib.hid e5; clear hO5 e5)
              | (go_at_call 24; refine (HML.out w5 _ (HEW4.out.trans HE5.out) ?_).mono ?_; (first | exact Ext.refl _ | exact (Ext.refl _).drew); rintro e w6 ⟨v6, rfl, hO6, e6⟩; obtain ⟨v6a, v6n, v6c, hv6⟩ : ∃ v6a v6n v6c, v6 = .slice v6a v6n v6c := (by obtain ⟨a, b, e, _⟩ := hO6.rd.shape; exact ⟨a, _, b, e⟩); subst hv6; have g0 := e6.keeps f0; have g1 := e6.keeps f1; have HO6 := Lib.hid hO6; have HE6 := Lib.hid e6; clear hO6 e6)
              | (refine step_appG tP rfl _ _ rfl W1 _ qs rfl ?a1 _ [⟨⟨v5a, v5n, v5c, v6a, v6n, v6c⟩, ⟨r.v ++ xr.v, linL (r.t ++ xr.t)⟩⟩] rfl ?a2 ?a3 ?_; (have z1 := HQ4.out.ext (HE5.out.trans (HE6.out.alloc #[.slice v5a v5n v5c, .slice v6a v6n v6c] 51)); case a1 => exact z1); (have z2 := rd_litG w6 [(⟨⟨v5a, v5n, v5c, v6a, v6n, v6c⟩, ⟨r.v ++ xr.v, linL (r.t ++ xr.t)⟩⟩ : P)] #[.slice v5a v5n v5c, .slice v6a v6n v6c] 51 _ 1 rfl rfl (by simp) rfl; case a2 => exact z2); (case a3 => have := HQL.out; simp; omega); intro v7 w7 hO7 hg7; have hx1 := (Ext.refl w6).alloc #[.slice v5a v5n v5c, .slice v6a v6n v6c] 51; have r0 := grow_cell hg7 (hx1.keeps g0) (fun kk hh => by have := HQW3.out kk hh; have := HWS.out; omega); have r1 := grow_cell hg7 (hx1.keeps g1) (fun kk hh => by have := HVPB.out kk hh; omega)))
          all_goals
            have hx1 := (Ext.refl w6).alloc #[.slice v5a v5n v5c, .slice v6a v6n v6c] 51
            have hx5 := HE6.out.trans hx1
            have hx4 := HE5.out.trans hx5
            have hx3 := HE4.out.trans hx4
            have hgr7 : Grw (w6.alloc (.cells #[.slice v5a v5n v5c, .slice v6a v6n v6c] 51)) w7 u9.ownBlock := grw_by hg7
            have hVx := HO3.out.ext hx3
            have hQx := HQ3.out.ext hx3
            have hVn := Lib.hid (hVx.other hgr7 (fun q hq => HQW3.out q hq) (hVx.apart hQx (by decide)))
            have hvb : ∀ g, (Value.slice v3a v3n v3c).ownBlock = some g → g < w4.heap.size := fun g hg => Nat.lt_of_lt_of_le (HO3.out.lt g hg) HE4.out.2.2
            have h5i : In (fun g => some g ≠ (Value.slice v3a v3n v3c).ownBlock) (.slice v5a v5n v5c) := fun g hg _ e => by
              have h1 := (HO5.out.blk g hg).1
              have h2 := hvb g e.symm
              omega
            have h6i : In (fun g => some g ≠ (Value.slice v3a v3n v3c).ownBlock) (.slice v6a v6n v6c) := fun g hg _ e => by
              have h1 := (HO6.out.blk g hg).1
              have h2 := hvb g e.symm
              have h3 := HE5.out.2.2
              omega
            have hnew : FineV S B (w6.alloc (.cells #[.slice v5a v5n v5c, .slice v6a v6n v6c] 51)) (Value.slice v3a v3n v3c).ownBlock ⟨⟨v5a, v5n, v5c, v6a, v6n, v6c⟩, ⟨r.v ++ xr.v, linL (r.t ++ xr.t)⟩⟩ :=
              ⟨⟨⟨⟨HO5.out.rd.ext hx5, HO6.out.rd.ext hx1⟩, (HO5.out.ext hx5).off (by decide), (HO6.out.ext hx1).off (by decide)⟩, HO5.out.inn (HU.out.ext HEW4.out), HO6.out.inn (HU.out.ext (HEW4.out.trans HE5.out))⟩, h5i, h6i⟩
            have hall0 : (∀ q ∈ qs ++ [(⟨⟨v5a, v5n, v5c, v6a, v6n, v6c⟩, ⟨r.v ++ xr.v, linL (r.t ++ xr.t)⟩⟩ : P)], FineV S B w7 (Value.slice v3a v3n v3c).ownBlock q) := (fun q hq => by
              rcases List.mem_append.1 hq with hq | hq
              · have h := (HF3.out q hq).ext hx3
                exact ⟨h.1.grw hgr7 (hQx.blk.elder HBB.out), h.2⟩
              · simp only [List.mem_singleton] at hq
                subst hq
                exact ⟨hnew.1.grw hgr7 (hQx.blk.elder HBB.out), hnew.2⟩)
            have hall := Lib.hid hall0
            have hrws0 : (rows (qs ++ [(⟨⟨v5a, v5n, v5c, v6a, v6n, v6c⟩, ⟨r.v ++ xr.v, linL (r.t ++ xr.t)⟩⟩ : P)]) = parL es p r ((rows ps).take (k + 1))) := (by rw [HST3.out, rows_app, HRW.out]; rfl)
            have hrws := Lib.hid hrws0
            have HO7 := Lib.hid hO7
            clear hx1 hx5 hx4 hx3 hgr7 hVx hQx hvb h5i h6i hnew hO7 hg7 hall0 hrws0
            go_wp2_with fail
            go_roundw
            case rel => exact ⟨k + 1, xr.v, by rw [rows_len]; exact HL.out, by go_num, hVn.out, _, HO7.out, hall.out, hrws.out⟩
            case measure => simp [intOf]; omega
    · have hke : (rows ps).take k = rows ps := List.take_of_length_le (by rw [rows_len]; have := HT.out; omega)
      rw [hke] at hrw
      have HQ := Lib.hid hQ
      have HFF := Lib.hid (fun q hq => (hF q hq).1)
      have HRW := Lib.hid hrw
      clear hke hrw hQ hF hV
      go_wp2_with fail
      go_ret
      exact ⟨_, qs, rfl, HQ.out.base HW.out, HFF.out, HRW.out⟩
end Go.Proofs.YtbplapkcleipiaaGreatDoor
