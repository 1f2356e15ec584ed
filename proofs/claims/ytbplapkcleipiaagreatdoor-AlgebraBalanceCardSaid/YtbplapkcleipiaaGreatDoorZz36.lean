/- Evaluating a query, of the program: Except and Intersect. -/
import Derived.Test.YtbplapkcleipiaaGreatDoorZz33
import Derived.Test.YtbplapkcleipiaaGreatDoorZz35
namespace Go.Proofs.YtbplapkcleipiaaGreatDoor
open Go.ChangeShapes Go.WideShapes Go.ChangeAt Go.RowKit

/-- a new box of two cells, and all else «as» it was -/
def BxE (wr W : World) (B : Nat) (x y : Value) : Prop := Ext wr W ∧ W.cell? ⟨B, 0, none⟩ = some x ∧ W.cell? ⟨B, 1, none⟩ = some y
theorem bxE_alloc {wr w3 : World} {x y : Value} {t : TypeId} (h : Ext wr w3) : BxE wr (w3.alloc (.cells #[x, y] t)) w3.heap.size x y := ⟨h.alloc _ _, al0 _ _ _ _, al1 _ _ _ _⟩
theorem ext_set2 {w X : World} (h : Ext w X) (b o o' : Nat) (hb : w.heap.size ≤ b) (u v : Value) : Ext w ((X.setCell ⟨b, o, none⟩ u).setCell ⟨b, o', none⟩ v) := (h.setNew b o hb u).setNew b o' hb v
theorem bxE_set {wr w3 : World} {p q x y : Value} {t : TypeId} (h : Ext (wr.alloc (.cells #[p, q] t)) w3) : BxE wr ((w3.setCell ⟨wr.heap.size, 0, none⟩ x).setCell ⟨wr.heap.size, 1, none⟩ y) wr.heap.size x y := by
  have n0 := h.keeps (al0 wr p q t)
  have n1 := h.keeps (al1 wr p q t)
  refine ⟨ext_set2 (((Ext.refl wr).alloc _ _).trans h) _ _ _ (Nat.le_refl _) _ _, ?_, ?_⟩
  · rw [World.cell?_setCell_other _ _ _ _ (by simp)]
    exact World.cell?_setCell_same _ _ _ n0
  · refine World.cell?_setCell_same _ _ _ (u := q) ?_
    rw [World.cell?_setCell_other _ _ _ _ (by simp)]; exact n1
theorem own_set2 {α : Type} [Enc α] {e : TypeId} {wr w3 : World} {p q x y : Value} {t : TypeId} {v : Value} {l : List α} (h : OwnG e (wr.alloc (.cells #[p, q] t)) w3 v l) : OwnG e wr ((w3.setCell ⟨wr.heap.size, 0, none⟩ x).setCell ⟨wr.heap.size, 1, none⟩ y) v l := by
  have hne : v.ownBlock = none ∨ v.ownBlock ≠ some wr.heap.size := .inr fun e => by
    have := (h.blk _ e).1
    simp at this
    omega
  have h0 := h.base ((Ext.refl wr).alloc _ _)
  have k1 := set_grw w3 wr.heap.size 0 x
  have k2 := set_grw (w3.setCell ⟨wr.heap.size, 0, none⟩ x) wr.heap.size 1 y
  have hb : ∀ g, some wr.heap.size = some g → wr.heap.size ≤ g := fun g hg => by injection hg with hg; omega
  exact (h0.other k1 hb hne).other k2 hb hne
theorem far2 {w : World} {b b' o i j : Nat} {u x y : Value} (hne : b < b') (h : w.cell? ⟨b, o, none⟩ = some u) : ((w.setCell ⟨b', i, none⟩ x).setCell ⟨b', j, none⟩ y).cell? ⟨b, o, none⟩ = some u := by
  have ne : ∀ k, (⟨b, o, none⟩ : Addr) ≠ ⟨b', k, none⟩ := fun k e => by injection e with e; omega
  rw [World.cell?_setCell_other _ _ _ _ (by intro e; injection e with e; omega), World.cell?_setCell_other _ _ _ _ (by intro e; injection e with e; omega)]; exact h
theorem cnt_count (l : List R) (v : List V) : (l.map R.v).count v = cnt l v := by
  unfold cnt List.count
  rw [List.countP_map]
  refine List.countP_congr fun r _ => ?_
  simp
theorem fm_pre {α β : Type} (G : α → List β) (l : List α) (k : Nat) : ((l.take k).flatMap G).length ≤ (l.flatMap G).length := by
  have : l.flatMap G = (l.take k).flatMap G ++ (l.drop k).flatMap G := by rw [← List.flatMap_append, List.take_append_drop]
  rw [this, List.length_append]; omega
theorem fm_step {α β : Type} (G : α → List β) (l : List α) (k : Nat) (h : k < l.length) : (l.take (k + 1)).flatMap G = (l.take k).flatMap G ++ G l[k] := by
  rw [List.take_succ_eq_append_getElem h, List.flatMap_append]; simp
theorem cls_cnt (a b : List R) (c : Cl) (hc : c ∈ clsF R.v (a ++ b)) : cnt a c.1 ≤ c.2.length ∧ c.2.length ≤ a.length + b.length := by
  have h := ((clsF_isC R.v (a ++ b)).cls c hc).length_eq
  rw [h, List.filter_append, List.length_append, ← List.countP_eq_length_filter, ← List.countP_eq_length_filter]
  have h1 := List.countP_le_length (p := fun r => decide (R.v r = c.1)) (l := a)
  have h2 := List.countP_le_length (p := fun r => decide (R.v r = c.1)) (l := b)
  unfold cnt
  omega
def CtR (W : World) (M : Nat) (l : List R) (i : Value) (wr : World) : Prop := ∃ k : Nat, k ≤ l.length ∧ i = .int .i64 k ∧ Ext W wr ∧ MapI M (cntF ((l.take k).map R.v)) k wr
def CbR (S : Nat → Prop) (W1 : World) (G : Cl → List R) (cs : List Cl) (v i : Value) (wr : World) : Prop := ∃ k : Nat, k ≤ cs.length ∧ i = .int .i64 k ∧ OwnQ S W1 wr v ((cs.take k).flatMap G)
end Go.Proofs.YtbplapkcleipiaaGreatDoor
/- Evaluating a query, of the program: groups. -/
namespace Go.Proofs.YtbplapkcleipiaaGreatDoor
open Go.ChangeShapes Go.WideShapes Go.ChangeAt Go.RowKit

theorem cls_ok {f : R → List V} {l : List R} {c : Cl} (hc : c ∈ clsF f l) (ho : OkRs l) : OkRs c.2 ∧ c.2.length ≤ l.length := by
  have h := (clsF_isC f l).cls c hc
  refine ⟨fun r hr => ho r (List.mem_filter.1 (h.mem_iff.1 hr)).1, ?_⟩
  rw [h.length_eq]; exact List.length_filter_le _ _
theorem cls_len (f : R → List V) (l : List R) : (clsF f l).length ≤ l.length := by
  have hi := clsF_isC f l
  have h1 : ((clsF f l).map Prod.fst).length ≤ (l.map f).length := hi.nd.length_le_of_subset (fun v hv => (hi.mem v).1 hv)
  rwa [List.length_map, List.length_map] at h1
theorem cls_key_len {es : List X} {ex : List Int} {l : List R} {c : Cl} (hc : c ∈ clsF (fun r => valL es ex r.v) l) : c.1.length = ex.length := by
  obtain ⟨r, _, e⟩ := List.mem_map.1 (((clsF_isC _ l).mem c.1).1 (List.mem_map_of_mem hc))
  rw [← e]; unfold valL; rw [List.length_map]
theorem ag_step (es : List X) (l : List R) (ag : List (Int × Int)) (k : Nat) (h : k < ag.length) : (ag.take (k + 1)).map (agV es l) = (ag.take k).map (agV es l) ++ [agV es l ag[k]] := by
  rw [List.take_succ_eq_append_getElem h, List.map_append]; rfl
theorem gr_step (es : List X) (ag : List (Int × Int)) (cs : List Cl) (k : Nat) (h : k < cs.length) : (cs.take (k + 1)).map (grpR es ag) = (cs.take k).map (grpR es ag) ++ [grpR es ag cs[k]] := by
  rw [List.take_succ_eq_append_getElem h, List.map_append]; rfl
def GoR (S : Nat → Prop) (W : World) (es : List X) (ag : List (Int × Int)) (vc : Value) (cps : List ClP) (vg i : Value) (wr : World) : Prop :=
  ∃ (k : Nat) (qs : List P), k ≤ cps.length ∧ i = .int .i64 k ∧ GI S W wr vc cps k vg qs ∧ rows qs = (cps.map ClP.d |>.take k).map (grpR es ag)
def VaR (W wA : World) (es : List X) (ag : List (Int × Int)) (x : Value) (yv : List V) (l : List R) (v i : Value) (wr : World) : Prop :=
  ∃ k : Nat, k ≤ ag.length ∧ i = .int .i64 k ∧ Grw wA wr x.ownBlock ∧ Loc wA x v ∧ OwnG tV.e W wr v (yv ++ (ag.take k).map (agV es l))
set_option maxHeartbeats 16000000 in
set_option maxRecDepth 100000 in
theorem grpE_prg (S : Nat → Prop) (es : List X) (nd : Nd) (h : Hd) (l : List R) (a2 a3 a4 : Option Addr) (n2 n3 n4 c2 c3 c4 : Nat) (ve vr : Value) (w : World) (hl : RdG w ve es) (hnd : RdNd w ⟨h, nd⟩) (hr : RdR S w vr l) (hU : Up S w) (hG : PT w) (hs : es.length ≤ 1000) (hx : OkX es) (ho : OkRs l)
    (hk : ∀ r ∈ l, KeyOk (valL es nd.ex r.v)) (hll : l.length ≤ 1000000) (hee : nd.ex.length ≤ 1000000) (hag : nd.ag.length ≤ 1000000) (hak : ∀ g ∈ nd.ag, 1 ≤ g.1 ∧ g.1 ≤ 4) (hli : ∀ c ∈ clsF (fun r => valL es nd.ex r.v) l, (c.2.flatMap R.t).length ≤ 100000000) :
    Calls Tryz.prog 73 #[eaV ve (.slice a2 n2 c2) (.slice a3 n3 c3) (.slice a4 n4 c4), ndV ⟨h, nd⟩, vr] w (RoP S w ((oneC nd.ex (clsF (fun r => valL es nd.ex r.v) l)).map (grpR es nd.ag))) := by
  have HAG := Lib.hid (fun (gk ga : Int) (l : List R) (S : Nat → Prop) (vr : Value) w' (hE : Ext w w') (hr : RdR S w' vr l) (ho : OkRs l) (hll : l.length ≤ 1000000) (hk : 1 ≤ gk ∧ gk ≤ 4) => agg_prg es gk ga l S a2 a3 a4 n2 n3 n4 c2 c3 c4 ve vr w' (hl.ext hE) hr hs hx ho hll hk)
  obtain ⟨xa, xn, xc, xb, xm, xd⟩ := h
  obtain ⟨nk, na, nb, np, ns, ex, ag⟩ := nd
  simp only at hk hee hag hak hli ⊢
  obtain ⟨hx1, hx2⟩ := hnd
  simp only at hx1 hx2
  obtain ⟨W, hW⟩ : ∃ W, W = (w.alloc (.cells #[ve, .slice a2 n2 c2, .slice a3 n3 c3, .slice a4 n4 c4] 111)).alloc (.cells #[.int .i64 nk, .int .i64 na, .int .i64 nb, .int .i64 np, sv ns, .slice xa xn xc, .slice xb xm xd] 45) := ⟨_, rfl⟩
  have hEW : Ext w W := by rw [hW]; exact ((Ext.refl _).alloc _ _).alloc _ _
  have hbx : Bxn w.heap.size [ve, .slice a2 n2 c2, .slice a3 n3 c3, .slice a4 n4 c4] W := by rw [hW]; exact (Bxn.new w _ _).ext ((Ext.refl _).alloc _ _)
  have hby : Bxn (w.heap.size + 1) [.int .i64 nk, .int .i64 na, .int .i64 nb, .int .i64 np, sv ns, .slice xa xn xc, .slice xb xm xd] W := by rw [hW, ← alsz w]; exact Bxn.new _ _ _
  have HCL := Lib.hid (cls_key S es ex l w.heap.size (w.heap.size + 1) a2 a3 a4 n2 n3 n4 c2 c3 c4 ve (.slice xa xn xc) vr W (hl.ext hEW) (hx1.ext hEW) hbx (hby.2 5 _ rfl).1 (hU.ext hEW) hs hx ho hee (rdR_ok.ext hr hEW) (hG.ext hEW) hk hll)
  have HOK := Lib.hid (fun (c : Cl) (hc : c ∈ clsF (fun r => valL es ex r.v) l) => (show OkRs c.2 ∧ c.2.length ≤ 1000000 ∧ c.1.length ≤ 1000000 ∧ (c.2.flatMap R.t).length ≤ 100000000 from ⟨(cls_ok hc ho).1, Nat.le_trans (cls_ok hc ho).2 hll, by rw [cls_key_len hc]; exact hee, hli c hc⟩))
  have hcl : (clsF (fun r => valL es ex r.v) l).length ≤ 1000000 := Nat.le_trans (cls_len _ _) hll
  obtain ⟨bd, bcap, rfl⟩ := rdR_ok.shape hr
  obtain ⟨ed, ecap, rfl, _, _⟩ := hl.shape
  have hxn : xn = ex.length := by obtain ⟨_, _, e, _⟩ := hx1.shape; injection e
  have hxm : xm = ag.length := by obtain ⟨_, _, e, _⟩ := hx2.shape; injection e
  obtain ⟨cs, hcs⟩ : ∃ cs, cs = clsF (fun r => valL es ex r.v) l := ⟨_, rfl⟩
  rw [← hcs] at HCL HOK hcl ⊢
  have hone : ∀ d : List Cl, oneC ex d = if d.length = 0 ∧ xn = 0 then [([], [])] else d := fun d => by unfold oneC; rw [hxn]
  have HONE := Lib.hid hone
  have HAGR := Lib.hid hx2
  have HU := Lib.hid (hU.ext hEW)
  have HAK := Lib.hid hak
  have HEW := Lib.hid hEW
  have HXM := Lib.hid hxm
  have HBX := Lib.hid hbx
  have HBY := Lib.hid hby
  have hW' := Lib.hid hW
  obtain ⟨t, ht⟩ : ∃ t, t = l.length := ⟨_, rfl⟩
  obtain ⟨n, hn⟩ : ∃ n, n = es.length := ⟨_, rfl⟩
  rw [← ht] at HCL ⊢
  rw [← hn] at HAG HBX hW' hbx ⊢
  have hxn0 : xn ≤ 1000000 := by omega
  have hxm0 : xm ≤ 1000000 := by omega
  have HCN := Lib.hid hcl
  have k5 := (hby.2 5 _ rfl).1
  have sW := hby.1
  clear hl hr hU hG hs hx ho hk hll hee hag hak hli hx1 hx2 hEW hby hbx hW hcs hone hxm ht hn hxn hcl
  go_enter Tryz.func73, Tryz.ntmps73
  go_wp2_with fail
  rw [← hW'.out]
  refine HCL.out.mono ?_; rintro e w2 ⟨v, cps, ps0, rfl, hI, hp0, hd⟩
  obtain ⟨va, vcap, rfl, v1, v2⟩ := hI.own.rd.shape
  have HE := Lib.hid hI.own.2
  have K5 := hI.own.2.keeps k5
  have SW := Nat.lt_of_lt_of_le sW hI.own.2.2.2
  obtain ⟨u, hu⟩ : ∃ u, u = cps.length := ⟨_, rfl⟩
  have HT := Lib.hid hu
  have hucs : u = cs.length := by rw [hu, ← hd, List.length_map]
  rw [← hu] at v1 ⊢
  unfold maxLen at v2
  by_cases hz : u = 0 ∧ xn = 0
  · obtain ⟨rfl, rfl⟩ := hz
    have HQ := Lib.hid (show oneC ex cs = [([], [])] by rw [HONE.out]; exact if_pos ⟨hucs.symm, rfl⟩)
    have HGI := Lib.hid (GI.one S HE.out)
    have HRW := Lib.hid (fun (c : ClP) (hc : c ∈ [(⟨⟨none, 0, 0, none, 0, 0⟩, [], []⟩ : ClP)]) => (show (∀ w', Ext W w' → ∀ p ∈ c.ps, RdRow w' p ∧ In S p.h.x ∧ In S p.h.y) ∧ OkRs c.d.2 ∧ c.d.2.length ≤ 1000000 ∧ c.d.1.length ≤ 1000000 ∧ (c.d.2.flatMap R.t).length ≤ 100000000 by
      simp only [List.mem_singleton] at hc; subst hc
      exact ⟨fun _ _ p hp => (by cases hp), fun r hr => (by cases hr), by simp [ClP.d, rows], by simp [ClP.d], by simp [ClP.d, rows]⟩))
    clear hI hp0 hd hu hucs K5
    have K5 := k5
    have K5 := HE.out.keeps k5
    go_wp2_with fail
    go_loopw [9, 32] (GoR S W es ag (.slice (some ⟨w2.heap.size, 0, none⟩) 1 1) [(⟨⟨none, 0, 0, none, 0, 0⟩, [], []⟩ : ClP)]) (fun _ i _ => 1 - (intOf i).toNat)
    case atStart => exact ⟨0, [], Nat.zero_le _, rfl, HGI.out, rfl⟩
    case round =>
      obtain ⟨k, qs, hk, rfl, hGI, hqs⟩ := hrel
      have hkt : k ≤ 1 := by simpa using hk
      have hEr := Lib.hid hGI.own.2
      have hbx := HBX.out.ext hEr.out
      have hby := HBY.out.ext hEr.out
      have x0 := (hbx.2 0 _ rfl).1
      have x1 := (hbx.2 1 _ rfl).1
      have x2 := (hbx.2 2 _ rfl).1
      have x3 := (hbx.2 3 _ rfl).1
      have y6 := (hby.2 6 _ rfl).1
      have s1 := hby.1
      have s0 : w.heap.size < wr.heap.size := by omega
      clear hbx hby
      by_cases hlt : k < 1
      · have hlc : k < [(⟨⟨none, 0, 0, none, 0, 0⟩, [], []⟩ : ClP)].length := by simpa using hlt
        have hku : k ≤ 1000000 := by omega
        obtain ⟨wo, rfl⟩ : ∃ x, x = wr := ⟨_, rfl⟩
        obtain ⟨g, o, hva, d0, d1⟩ := rd_Cl hGI.hd k hlc
        cases hva
        rw [Nat.zero_add] at d0 d1
        have hst := gr_step es ag ([(⟨⟨none, 0, 0, none, 0, 0⟩, [], []⟩ : ClP)].map ClP.d) k (by rw [List.length_map]; exact hlc)
        have hcq : [(⟨⟨none, 0, 0, none, 0, 0⟩, [], []⟩ : ClP)][k]? = some [(⟨⟨none, 0, 0, none, 0, 0⟩, [], []⟩ : ClP)][k] := List.getElem?_eq_getElem hlc
        have hrw := HRW.out [(⟨⟨none, 0, 0, none, 0, 0⟩, [], []⟩ : ClP)][k] (List.getElem_mem _)
        rw [List.getElem_map] at hst
        have hql : qs.length ≤ 1000000 := by
          have e := rows_len qs
          rw [hqs, List.length_map, List.length_take] at e; omega
        generalize [(⟨⟨none, 0, 0, none, 0, 0⟩, [], []⟩ : ClP)][k] = y at *
        obtain ⟨⟨ya, yn, yc, yb, ym, yd⟩, yv, yps⟩ := y
        simp only [Hd.x, Hd.y, ClP.d] at d0 d1 hst hrw
        obtain ⟨hrd, hor, hol, hov, hot⟩ := hrw
        obtain ⟨hy, hxx, _, _⟩ := hGI.rest k _ (Nat.le_refl _) hcq
        simp only [Hd.x, Hd.y] at hy hxx
        obtain ⟨wA, hwA⟩ : ∃ wA, wA = wo.alloc (.cells #[.slice ya yn yc, .slice yb ym yd] 163) := ⟨_, rfl⟩
        have EX := Lib.hid (show Ext wo wA by rw [hwA]; exact (Ext.refl wo).alloc _ _)
        have HB := Lib.hid (show Bxn wo.heap.size [.slice ya yn yc, .slice yb ym yd] wA by rw [hwA]; exact Bxn.new wo _ _)
        have HGA := Lib.hid (hGI.ext EX.out)
        have HXA := Lib.hid (hxx.ext EX.out)
        have HNE := Lib.hid (show some wo.heap.size ≠ (Value.slice ya yn yc).ownBlock from fun e => by have := hxx.lt _ e.symm; omega)
        have HWA := Lib.hid hwA
        have HST := Lib.hid hst
        have HCQ := Lib.hid hcq
        have HRD := Lib.hid hrd
        have HOR := Lib.hid hor
        have HOL := Lib.hid hol
        have HOV := Lib.hid hov
        have HOT := Lib.hid hot
        have HQL := Lib.hid hql
        have HQS := Lib.hid hqs
        have HLC := Lib.hid hlc
        clear hGI hst hcq hrd hor hol hov hot hy hxx hwA hql hqs hlc
        go_wp2_with fail
        rw [← HWA.out]
        go_loopw [12, 41] (VaR W wA es ag (.slice ya yn yc) yv (rows yps)) (fun _ i _ => xm - (intOf i).toNat)
        case atStart => exact ⟨0, Nat.zero_le _, rfl, Grw.refl _ _, Loc.refl _ _, by simpa using HXA.out⟩
        case round =>
          obtain ⟨i, hi, rfl, hg, hloc, hO⟩ := hrel
          have him : i ≤ xm := by rw [HXM.out]; exact hi
          have HEi := Lib.hid hO.2
          have hb2 := HBX.out.ext HEi.out
          have q0 := (hb2.2 0 _ rfl).1
          have q1 := (hb2.2 1 _ rfl).1
          have q2 := (hb2.2 2 _ rfl).1
          have q3 := (hb2.2 3 _ rfl).1
          have hs2 : w.heap.size < wr.heap.size := hb2.1
          have kc0 := grw_keeps hg (HB.out.2 0 _ rfl).1 HNE.out
          have kc1 := grw_keeps hg (HB.out.2 1 _ rfl).1 HNE.out
          have hs3 := World.block_lt_of_cell? _ _ kc1
          obtain ⟨hG2, hY2⟩ := HGA.out.vals HCQ.out hg
          have hrr : RdR S wr (.slice yb ym yd) (rows yps) := ⟨yps, hY2.rd, hY2.inn HU.out, HRD.out wr HEi.out, rfl⟩
          have HG2 := Lib.hid hG2
          have HG := Lib.hid hg
          have HLOC := Lib.hid hloc
          obtain ⟨oa, oc, rfl, _, _⟩ := hO.rd.shape
          obtain ⟨on, hon⟩ : ∃ on, on = (yv ++ (ag.take i).map (agV es (rows yps))).length := ⟨_, rfl⟩
          rw [← hon] at hO ⊢
          have hlen : on ≤ 2000000 := by rw [hon, List.length_append, List.length_map, List.length_take]; have := HOV.out; omega
          have HLEN := Lib.hid (show (yv ++ (ag.take i).map (agV es (rows yps))).length ≤ 2000000 by rw [← hon]; exact hlen)
          rw [← hon] at HLOC
          have HO := Lib.hid hO
          clear hb2 hg hloc hO hY2 hG2 hon hlen
          by_cases hlt2 : i < xm
          · have hia : i < ag.length := by rw [← HXM.out]; exact hlt2
            obtain ⟨g2, o2, hxb, e0', e1'⟩ := rd_Ag HAGR.out i hia
            cases hxb
            have e0 := (HEW.out.trans HEi.out).keeps e0'
            have e1 := (HEW.out.trans HEi.out).keeps e1'
            clear e0' e1'
            have hak2 := HAK.out ag[i] (List.getElem_mem _)
            have hst2 := ag_step es (rows yps) ag i hia
            generalize ag[i] = z at *
            obtain ⟨gk, ga⟩ := z
            simp only at e0 e1 hak2 hst2
            have HAC := Lib.hid (fun w' (hE : Ext wr w') => HAG.out gk ga (rows yps) S (.slice yb ym yd) w' (HEW.out.trans (HEi.out.trans hE)) (rdR_ok.ext hrr hE) HOR.out HOL.out hak2)
            have HS2 := Lib.hid hst2
            have HIA := Lib.hid hia
            generalize agV es (rows yps) (gk, ga) = z at HAC HS2
            obtain ⟨zk, zn, zs⟩ := z
            clear hak2 hst2 hrr
            go_wp2_with fail
            refine (HAC.out _ ((Ext.refl wr).alloc _ _)).mono ?_; rintro e w5 ⟨rfl, hE5⟩
            have HE5 := Lib.hid (((Ext.refl wr).alloc #[.int .i64 gk, .int .i64 ga] 62).trans hE5)
            have HE6 := Lib.hid (HE5.out.alloc #[.int .i64 zk, .int .i64 zn, sv zs] 58)
            clear hE5
            go_wp2_with (at_builtin; refine appGL tV rfl _ _ rfl W _ (yv ++ (ag.take i).map (agV es (rows yps))) rfl (HO.out.ext HE6.out) _ [⟨zk, zn, zs⟩] rfl (rd_litG w5 [(⟨zk, zn, zs⟩ : V)] #[.int .i64 zk, .int .i64 zn, sv zs] 58 _ 1 (by simp) rfl (by simp) rfl) (by have := HLEN.out; simp only [List.length_cons, List.length_nil]; omega) ?_; intro v' w' hO' hg' hl')
            go_roundw
            case rel =>
              refine ⟨i + 1, HIA.out, by go_num, (HG.out.trans (grw_ext HE6.out _) (.inl rfl)).trans (grw_by hg') HLOC.out, HLOC.out.trans hl' (Nat.le_trans HG.out.size HE6.out.2.2), ?_⟩
              rw [HS2.out, ← List.append_assoc]
              exact hO'
            case measure => simp [intOf]; omega
          · have hke : ag.take i = ag := List.take_of_length_le (by rw [← HXM.out]; omega)
            rw [hke] at HO
            have HLI := Lib.hid (fun w' (hE : Ext wr w') => lin_prg (rows yps) ya yn yc (.slice yb ym yd) S w' (rdR_ok.ext hrr hE) HOT.out)
            clear hke hrr
            obtain ⟨ga, gc, rfl, _, _⟩ := HG2.out.own.rd.shape
            go_wp2_with fail
            refine (HLI.out _ (Ext.refl _)).mono ?_; rintro e w5 ⟨v5, rfl, hO5⟩
            obtain ⟨a5, n5, c5, hv5⟩ : ∃ a5 n5 c5, v5 = .slice a5 n5 c5 := (by obtain ⟨a, b, e, _⟩ := hO5.rd.shape; exact ⟨a, _, b, e⟩)
            subst hv5
            have HO5 := Lib.hid hO5
            have HE6 := Lib.hid (hO5.2.alloc #[.slice oa on oc, .slice a5 n5 c5] 51)
            clear hO5
            go_wp2_with (at_builtin; refine appGL tP rfl _ _ rfl W _ qs rfl (HG2.out.own.ext HE6.out) _ [⟨⟨oa, on, oc, a5, n5, c5⟩, grpR es ag (yv, rows yps)⟩] rfl (rd_litG w5 [(⟨⟨oa, on, oc, a5, n5, c5⟩, grpR es ag (yv, rows yps)⟩ : P)] #[.slice oa on oc, .slice a5 n5 c5] 51 _ 1 rfl rfl (by simp) rfl) (by have := HQL.out; simp only [List.length_cons, List.length_nil]; omega) ?_; intro v' w' hO' hg' hl')
            go_roundw
            case rel =>
              have hoo := HO.out.ext HE6.out
              have ho5 := HO5.out.ext ((Ext.refl w5).alloc #[.slice oa on oc, .slice a5 n5 c5] 51)
              refine ⟨k + 1, qs ++ [⟨⟨oa, on, oc, a5, n5, c5⟩, grpR es ag (yv, rows yps)⟩], HLC.out, by go_num, (HG2.out.ext HE6.out).put hO' hg' hl' ⟨⟨⟨⟨hoo.rd, ho5.rd⟩, hoo.off (by decide), ho5.off (by decide)⟩, hoo.inn HU.out, ho5.inn (HU.out.ext HEi.out)⟩, ho5.off (by decide)⟩ (fun j d hj hd => HGA.out.apart HCQ.out HLOC.out j d hj hd), ?_⟩
              rw [rows_app, HQS.out, HST.out]; rfl
            case measure => simp [intOf]; omega
      · have hke : ([(⟨⟨none, 0, 0, none, 0, 0⟩, [], []⟩ : ClP)].map ClP.d).take k = [(⟨⟨none, 0, 0, none, 0, 0⟩, [], []⟩ : ClP)].map ClP.d := List.take_of_length_le (by rw [List.length_map]; simp; omega)
        rw [hke] at hqs
        have HGI2 := Lib.hid hGI
        have HQS := Lib.hid hqs
        clear hke hqs hGI
        go_wp2_with fail
        go_ret
        exact HGI2.out.roP HEW.out HU.out (HQS.out.trans (by rw [HQ.out]; rfl))
  · have HQ := Lib.hid (show oneC ex cs = cps.map ClP.d by rw [HONE.out, hd]; exact if_neg (by rw [← hucs]; exact hz))
    have HGI := Lib.hid (show GI S W w2 (.slice va u vcap) cps 0 (.slice none 0 0) [] by rw [hu]; exact GI.start hI)
    have HRW := Lib.hid (fun (c : ClP) (hc : c ∈ cps) => (show (∀ w', Ext W w' → ∀ p ∈ c.ps, RdRow w' p ∧ In S p.h.x ∧ In S p.h.y) ∧ OkRs c.d.2 ∧ c.d.2.length ≤ 1000000 ∧ c.d.1.length ≤ 1000000 ∧ (c.d.2.flatMap R.t).length ≤ 100000000 from
      ⟨fun w' hE p hp => ⟨(hp0 p ((hI.rws c hc).2 p hp)).1.ext hE, (hp0 p ((hI.rws c hc).2 p hp)).2⟩, HOK.out c.d (by rw [← hd]; exact List.mem_map_of_mem hc)⟩))
    have hul : u ≤ 1000000 := by have := HCN.out; omega
    clear hI hp0 hd hu hucs
    rcases (show (u = 0 ∧ xn ≠ 0) ∨ u ≠ 0 by omega) with ⟨h1, h2⟩ | h1
    · subst h1
      have e2 : ((xn : Int) == 0) = false := by simp; omega
      clear hz
      go_wp2_with fail
      go_loopw [9, 32] (GoR S W es ag (.slice va 0 vcap) cps) (fun _ i _ => 0 - (intOf i).toNat)
      case atStart => exact ⟨0, [], Nat.zero_le _, rfl, HGI.out, rfl⟩
      case round =>
        obtain ⟨k, qs, hk, rfl, hGI, hqs⟩ := hrel
        have hkt : k ≤ 0 := by rw [HT.out]; exact hk
        have hEr := Lib.hid hGI.own.2
        have hbx := HBX.out.ext hEr.out
        have hby := HBY.out.ext hEr.out
        have x0 := (hbx.2 0 _ rfl).1
        have x1 := (hbx.2 1 _ rfl).1
        have x2 := (hbx.2 2 _ rfl).1
        have x3 := (hbx.2 3 _ rfl).1
        have y6 := (hby.2 6 _ rfl).1
        have s1 := hby.1
        have s0 : w.heap.size < wr.heap.size := by omega
        clear hbx hby
        by_cases hlt : k < 0
        · exact absurd hlt (Nat.not_lt_zero _)
        · have hke : (cps.map ClP.d).take k = cps.map ClP.d := List.take_of_length_le (by rw [List.length_map]; have := HT.out; omega)
          rw [hke] at hqs
          have HGI2 := Lib.hid hGI
          have HQS := Lib.hid hqs
          clear hke hqs hGI
          go_wp2_with fail
          go_ret
          exact HGI2.out.roP HEW.out HU.out (HQS.out.trans (by rw [HQ.out]))
    · have e1 : ((u : Int) == 0) = false := by simp; omega
      clear hz
      go_wp2_with fail
      go_loopw [9, 32] (GoR S W es ag (.slice va u vcap) cps) (fun _ i _ => u - (intOf i).toNat)
      case atStart => exact ⟨0, [], Nat.zero_le _, rfl, HGI.out, rfl⟩
      case round =>
        obtain ⟨k, qs, hk, rfl, hGI, hqs⟩ := hrel
        have hkt : k ≤ u := by rw [HT.out]; exact hk
        have hEr := Lib.hid hGI.own.2
        have hbx := HBX.out.ext hEr.out
        have hby := HBY.out.ext hEr.out
        have x0 := (hbx.2 0 _ rfl).1
        have x1 := (hbx.2 1 _ rfl).1
        have x2 := (hbx.2 2 _ rfl).1
        have x3 := (hbx.2 3 _ rfl).1
        have y6 := (hby.2 6 _ rfl).1
        have s1 := hby.1
        have s0 : w.heap.size < wr.heap.size := by omega
        clear hbx hby
        by_cases hlt : k < u
        · have hlc : k < cps.length := by rw [← HT.out]; exact hlt
          have hku : k ≤ 1000000 := by omega
          obtain ⟨wo, rfl⟩ : ∃ x, x = wr := ⟨_, rfl⟩
          obtain ⟨g, o, hva, d0, d1⟩ := rd_Cl hGI.hd k hlc
          cases hva
          skip
          have hst := gr_step es ag (cps.map ClP.d) k (by rw [List.length_map]; exact hlc)
          have hcq : cps[k]? = some cps[k] := List.getElem?_eq_getElem hlc
          have hrw := HRW.out cps[k] (List.getElem_mem _)
          rw [List.getElem_map] at hst
          have hql : qs.length ≤ 1000000 := by
            have e := rows_len qs
            rw [hqs, List.length_map, List.length_take] at e; omega
          generalize cps[k] = y at *
          obtain ⟨⟨ya, yn, yc, yb, ym, yd⟩, yv, yps⟩ := y
          simp only [Hd.x, Hd.y, ClP.d] at d0 d1 hst hrw
          obtain ⟨hrd, hor, hol, hov, hot⟩ := hrw
          obtain ⟨hy, hxx, _, _⟩ := hGI.rest k _ (Nat.le_refl _) hcq
          simp only [Hd.x, Hd.y] at hy hxx
          obtain ⟨wA, hwA⟩ : ∃ wA, wA = wo.alloc (.cells #[.slice ya yn yc, .slice yb ym yd] 163) := ⟨_, rfl⟩
          have EX := Lib.hid (show Ext wo wA by rw [hwA]; exact (Ext.refl wo).alloc _ _)
          have HB := Lib.hid (show Bxn wo.heap.size [.slice ya yn yc, .slice yb ym yd] wA by rw [hwA]; exact Bxn.new wo _ _)
          have HGA := Lib.hid (hGI.ext EX.out)
          have HXA := Lib.hid (hxx.ext EX.out)
          have HNE := Lib.hid (show some wo.heap.size ≠ (Value.slice ya yn yc).ownBlock from fun e => by have := hxx.lt _ e.symm; omega)
          have HWA := Lib.hid hwA
          have HST := Lib.hid hst
          have HCQ := Lib.hid hcq
          have HRD := Lib.hid hrd
          have HOR := Lib.hid hor
          have HOL := Lib.hid hol
          have HOV := Lib.hid hov
          have HOT := Lib.hid hot
          have HQL := Lib.hid hql
          have HQS := Lib.hid hqs
          have HLC := Lib.hid hlc
          clear hGI hst hcq hrd hor hol hov hot hy hxx hwA hql hqs hlc
          go_wp2_with fail
          rw [← HWA.out]
          go_loopw [12, 41] (VaR W wA es ag (.slice ya yn yc) yv (rows yps)) (fun _ i _ => xm - (intOf i).toNat)
          case atStart => exact ⟨0, Nat.zero_le _, rfl, Grw.refl _ _, Loc.refl _ _, by simpa using HXA.out⟩
          case round =>
            obtain ⟨i, hi, rfl, hg, hloc, hO⟩ := hrel
            have him : i ≤ xm := by rw [HXM.out]; exact hi
            have HEi := Lib.hid hO.2
            have hb2 := HBX.out.ext HEi.out
            have q0 := (hb2.2 0 _ rfl).1
            have q1 := (hb2.2 1 _ rfl).1
            have q2 := (hb2.2 2 _ rfl).1
            have q3 := (hb2.2 3 _ rfl).1
            have hs2 : w.heap.size < wr.heap.size := hb2.1
            have kc0 := grw_keeps hg (HB.out.2 0 _ rfl).1 HNE.out
            have kc1 := grw_keeps hg (HB.out.2 1 _ rfl).1 HNE.out
            have hs3 := World.block_lt_of_cell? _ _ kc1
            obtain ⟨hG2, hY2⟩ := HGA.out.vals HCQ.out hg
            have hrr : RdR S wr (.slice yb ym yd) (rows yps) := ⟨yps, hY2.rd, hY2.inn HU.out, HRD.out wr HEi.out, rfl⟩
            have HG2 := Lib.hid hG2
            have HG := Lib.hid hg
            have HLOC := Lib.hid hloc
            obtain ⟨oa, oc, rfl, _, _⟩ := hO.rd.shape
            obtain ⟨on, hon⟩ : ∃ on, on = (yv ++ (ag.take i).map (agV es (rows yps))).length := ⟨_, rfl⟩
            rw [← hon] at hO ⊢
            have hlen : on ≤ 2000000 := by rw [hon, List.length_append, List.length_map, List.length_take]; have := HOV.out; omega
            have HLEN := Lib.hid (show (yv ++ (ag.take i).map (agV es (rows yps))).length ≤ 2000000 by rw [← hon]; exact hlen)
            rw [← hon] at HLOC
            have HO := Lib.hid hO
            clear hb2 hg hloc hO hY2 hG2 hon hlen
            by_cases hlt2 : i < xm
            · have hia : i < ag.length := by rw [← HXM.out]; exact hlt2
              obtain ⟨g2, o2, hxb, e0', e1'⟩ := rd_Ag HAGR.out i hia
              cases hxb
              have e0 := (HEW.out.trans HEi.out).keeps e0'
              have e1 := (HEW.out.trans HEi.out).keeps e1'
              clear e0' e1'
              have hak2 := HAK.out ag[i] (List.getElem_mem _)
              have hst2 := ag_step es (rows yps) ag i hia
              generalize ag[i] = z at *
              obtain ⟨gk, ga⟩ := z
              simp only at e0 e1 hak2 hst2
              have HAC := Lib.hid (fun w' (hE : Ext wr w') => HAG.out gk ga (rows yps) S (.slice yb ym yd) w' (HEW.out.trans (HEi.out.trans hE)) (rdR_ok.ext hrr hE) HOR.out HOL.out hak2)
              have HS2 := Lib.hid hst2
              have HIA := Lib.hid hia
              generalize agV es (rows yps) (gk, ga) = z at HAC HS2
              obtain ⟨zk, zn, zs⟩ := z
              clear hak2 hst2 hrr
              go_wp2_with fail
              refine (HAC.out _ ((Ext.refl wr).alloc _ _)).mono ?_; rintro e w5 ⟨rfl, hE5⟩
              have HE5 := Lib.hid (((Ext.refl wr).alloc #[.int .i64 gk, .int .i64 ga] 62).trans hE5)
              have HE6 := Lib.hid (HE5.out.alloc #[.int .i64 zk, .int .i64 zn, sv zs] 58)
              clear hE5
              go_wp2_with (at_builtin; refine appGL tV rfl _ _ rfl W _ (yv ++ (ag.take i).map (agV es (rows yps))) rfl (HO.out.ext HE6.out) _ [⟨zk, zn, zs⟩] rfl (rd_litG w5 [(⟨zk, zn, zs⟩ : V)] #[.int .i64 zk, .int .i64 zn, sv zs] 58 _ 1 (by simp) rfl (by simp) rfl) (by have := HLEN.out; simp only [List.length_cons, List.length_nil]; omega) ?_; intro v' w' hO' hg' hl')
              go_roundw
              case rel =>
                refine ⟨i + 1, HIA.out, by go_num, (HG.out.trans (grw_ext HE6.out _) (.inl rfl)).trans (grw_by hg') HLOC.out, HLOC.out.trans hl' (Nat.le_trans HG.out.size HE6.out.2.2), ?_⟩
                rw [HS2.out, ← List.append_assoc]
                exact hO'
              case measure => simp [intOf]; omega
            · have hke : ag.take i = ag := List.take_of_length_le (by rw [← HXM.out]; omega)
              rw [hke] at HO
              have HLI := Lib.hid (fun w' (hE : Ext wr w') => lin_prg (rows yps) ya yn yc (.slice yb ym yd) S w' (rdR_ok.ext hrr hE) HOT.out)
              clear hke hrr
              obtain ⟨ga, gc, rfl, _, _⟩ := HG2.out.own.rd.shape
              go_wp2_with fail
              refine (HLI.out _ (Ext.refl _)).mono ?_; rintro e w5 ⟨v5, rfl, hO5⟩
              obtain ⟨a5, n5, c5, hv5⟩ : ∃ a5 n5 c5, v5 = .slice a5 n5 c5 := (by obtain ⟨a, b, e, _⟩ := hO5.rd.shape; exact ⟨a, _, b, e⟩)
              subst hv5
              have HO5 := Lib.hid hO5
              have HE6 := Lib.hid (hO5.2.alloc #[.slice oa on oc, .slice a5 n5 c5] 51)
              clear hO5
              go_wp2_with (at_builtin; refine appGL tP rfl _ _ rfl W _ qs rfl (HG2.out.own.ext HE6.out) _ [⟨⟨oa, on, oc, a5, n5, c5⟩, grpR es ag (yv, rows yps)⟩] rfl (rd_litG w5 [(⟨⟨oa, on, oc, a5, n5, c5⟩, grpR es ag (yv, rows yps)⟩ : P)] #[.slice oa on oc, .slice a5 n5 c5] 51 _ 1 rfl rfl (by simp) rfl) (by have := HQL.out; simp only [List.length_cons, List.length_nil]; omega) ?_; intro v' w' hO' hg' hl')
              go_roundw
              case rel =>
                have hoo := HO.out.ext HE6.out
                have ho5 := HO5.out.ext ((Ext.refl w5).alloc #[.slice oa on oc, .slice a5 n5 c5] 51)
                refine ⟨k + 1, qs ++ [⟨⟨oa, on, oc, a5, n5, c5⟩, grpR es ag (yv, rows yps)⟩], HLC.out, by go_num, (HG2.out.ext HE6.out).put hO' hg' hl' ⟨⟨⟨⟨hoo.rd, ho5.rd⟩, hoo.off (by decide), ho5.off (by decide)⟩, hoo.inn HU.out, ho5.inn (HU.out.ext HEi.out)⟩, ho5.off (by decide)⟩ (fun j d hj hd => HGA.out.apart HCQ.out HLOC.out j d hj hd), ?_⟩
                rw [rows_app, HQS.out, HST.out]; rfl
              case measure => simp [intOf]; omega
        · have hke : (cps.map ClP.d).take k = cps.map ClP.d := List.take_of_length_le (by rw [List.length_map]; have := HT.out; omega)
          rw [hke] at hqs
          have HGI2 := Lib.hid hGI
          have HQS := Lib.hid hqs
          clear hke hqs hGI
          go_wp2_with fail
          go_ret
          exact HGI2.out.roP HEW.out HU.out (HQS.out.trans (by rw [HQ.out]))
end Go.Proofs.YtbplapkcleipiaaGreatDoor
