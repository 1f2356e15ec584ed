/- Checking a query, of the program: the columns of a node whose inputs are there. -/
import Derived.StillTailTactics
import Derived.Test.YtbplapkcleipiaaGreatDoorZz13
import Derived.Test.YtbplapkcleipiaaGreatDoorZz17
namespace Go.Proofs.YtbplapkcleipiaaGreatDoor
open Go.ChangeShapes Go.WideShapes Go.ChangeAt Go.RowKit

theorem CoP.trans {S : Nat → Prop} {w0 w w' : World} {c : List Int × Int} {e : Ending} (h : Ext w0 w) (k : CoP S w c e w') : CoP S w0 c e w' := by
  obtain ⟨v, h1, h2, h3⟩ := k
  exact ⟨v, h1, h2, h.trans h3⟩
set_option maxHeartbeats 4000000 in
set_option maxRecDepth 100000 in
theorem co2 (S : Nat → Prop) (es : List X) (ts : List Tt) (done : List (List Int)) (nd : Nd) (h : Hd) (ve vt vc : Value) (w : World) (hl : RdG w ve es) (ht : RdT S w vt ts) (hd : RdS RdI S w vc done) (hn : RdNd w ⟨h, nd⟩) (hU : Up S w)
    (hs1 : nd.ex.length ≤ 1000000) (hs2 : nd.ag.length ≤ 1000000) (hs3 : ∀ c ∈ done, c.length ≤ 1000) (hk : nd.k = 2) (ha : isIx nd.a done.length = true) :
    Calls Tryz.prog 64 #[ckV ve vt vc, ndV ⟨h, nd⟩] w (CoP S w (colO es ts nd done)) := by
  obtain ⟨ad, cap, rfl, _, _⟩ := hl.shape
  obtain ⟨td, tcap, rfl, _, _⟩ := ht.shape
  obtain ⟨cd, ccap, rfl, _, cc2⟩ := hd.shape
  have HU := Lib.hid hU
  obtain ⟨hnx, hny⟩ := hn
  obtain ⟨xa, xn, xc, xb, xm, xd⟩ := h
  obtain ⟨nk, na, nb, np, ns, ex, ag⟩ := nd
  simp only [Hd.x, Hd.y] at hk ha hnx hny hs1 hs2 ⊢
  subst hk
  obtain ⟨j, rfl⟩ := nat_of ((isIx_iff _ _).1 ha).1
  have hj : j < done.length := by have := ((isIx_iff _ _).1 ha).2; omega
  obtain ⟨g, o, a, c, rfl, d0, hrel⟩ := hd.at rdI_ok j hj
  have hat : atC done (j : Int) = done[j] := by simp [atC, List.getD, hj]
  have hsa := hs3 done[j] (List.getElem_mem _)
  have HQ := Lib.hid (show colO es ts ⟨2, j, nb, np, ns, ex, ag⟩ done = prdC es np done[j] by simp [colO, hat])
  clear hat
  generalize done[j] = A at *
  have HC := Lib.hid (fun w' (hE : Ext w w') => pred_prg S es np A td (some ⟨g, o, none⟩) ts.length done.length tcap ccap _ _ w' (hl.ext hE) (rdI_ok.ext hrel hE))
  obtain ⟨n, hn⟩ : ∃ n, n = es.length := ⟨_, rfl⟩
  obtain ⟨m, hm⟩ : ∃ m, m = ts.length := ⟨_, rfl⟩
  obtain ⟨r, hr⟩ : ∃ r, r = done.length := ⟨_, rfl⟩
  have HJ := Lib.hid hj
  have HR := Lib.hid hr
  try rw [← hn, ← hm, ← hr] at HC
  rw [← hn, ← hm, ← hr]
  rw [← hr] at hj
  unfold maxLen at cc2
  clear hl ht hd hnx hny hs1 hs2 hs3 ha hn hm hr
  obtain ⟨w0, hw0⟩ : ∃ w0, w0 = (w.alloc (.cells #[.slice ad n cap, .slice td m tcap, .slice (some ⟨g, o, none⟩) r ccap] 108)).alloc (.cells #[.int .i64 2, .int .i64 (j : Int), .int .i64 nb, .int .i64 np, sv ns, .slice xa xn xc, .slice xb xm xd] 45) := ⟨_, rfl⟩
  have EX := Lib.hid (show Ext w w0 by rw [hw0]; exact ((Ext.refl _).alloc _ _).alloc _ _)
  have HC0 := Lib.hid (fun w' (hE : Ext w0 w') => (HC.out w' (EX.out.trans hE)).mono fun _ _ h => CoP.trans hE h)
  have p0 : w0.cell? ⟨w.heap.size, 0, none⟩ = some (.slice ad n cap) := by rw [hw0]; exact ((Ext.refl _).alloc _ _).keeps (al_c w _ _ 0 _ rfl)
  have p1 : w0.cell? ⟨w.heap.size, 1, none⟩ = some (.slice td m tcap) := by rw [hw0]; exact ((Ext.refl _).alloc _ _).keeps (al_c w _ _ 1 _ rfl)
  have p2 : w0.cell? ⟨w.heap.size, 2, none⟩ = some (.slice (some ⟨g, o, none⟩) r ccap) := by rw [hw0]; exact ((Ext.refl _).alloc _ _).keeps (al_c w _ _ 2 _ rfl)
  have q3 : w0.cell? ⟨w.heap.size + 1, 3, none⟩ = some (.int .i64 np) := by rw [hw0]; have := al_c (w.alloc (.cells #[.slice ad n cap, .slice td m tcap, .slice (some ⟨g, o, none⟩) r ccap] 108)) #[.int .i64 2, .int .i64 (j : Int), .int .i64 nb, .int .i64 np, sv ns, .slice xa xn xc, .slice xb xm xd] 45 3 _ rfl; rw [alsz] at this; exact this
  have q1 : w0.cell? ⟨w.heap.size + 1, 1, none⟩ = some (.int .i64 (j : Int)) := by rw [hw0]; have := al_c (w.alloc (.cells #[.slice ad n cap, .slice td m tcap, .slice (some ⟨g, o, none⟩) r ccap] 108)) #[.int .i64 2, .int .i64 (j : Int), .int .i64 nb, .int .i64 np, sv ns, .slice xa xn xc, .slice xb xm xd] 45 1 _ rfl; rw [alsz] at this; exact this
  have t0 := EX.out.keeps d0
  have HW0 := Lib.hid hw0
  clear d0 hw0
  obtain ⟨al, hal⟩ : ∃ al, al = A.length := ⟨_, rfl⟩
  rw [← hal] at t0 HC HC0
  clear HC hal
  have Kp0 := Lib.hid p0
  have Kp1 := Lib.hid p1
  have Kp2 := Lib.hid p2
  have Kq3 := Lib.hid q3
  have Kq1 := Lib.hid q1
  have Kt0 := Lib.hid t0
  go_enter Tryz.func64, Tryz.ntmps64
  go_wp2_with fail
  rw [← HW0.out]
  clear HW0
  go_region_held3 (fun w' => w'.cell? ⟨w.heap.size, 0, none⟩ = some (.slice ad n cap) ∧ w'.cell? ⟨w.heap.size, 1, none⟩ = some (.slice td m tcap) ∧ w'.cell? ⟨w.heap.size, 2, none⟩ = some (.slice (some ⟨g, o, none⟩) r ccap) ∧ w'.cell? ⟨w.heap.size + 1, 3, none⟩ = some (.int .i64 np) ∧ w'.cell? ⟨w.heap.size + 1, 1, none⟩ = some (.int .i64 (j : Int)) ∧ w'.cell? ⟨g, o + j, none⟩ = some (.slice a al c)) (first | exact ⟨Kp0.out, Kp1.out, Kp2.out, Kq3.out, Kq1.out, Kt0.out⟩ | exact ⟨fp0, fp1, fp2, fq3, fq1, ft0⟩ | go_keep)
    (first | (go_at_call 92; refine (HC0.out _ ?_).mono ?_; (first | exact Ext.refl _ | exact (Ext.refl _).drew); rintro e w3 ⟨v, rfl, hr3, e3⟩; have fp0 := e3.keeps Kp0.out; have fp1 := e3.keeps Kp1.out; have fp2 := e3.keeps Kp2.out; have fq3 := e3.keeps Kq3.out; have fq1 := e3.keeps Kq1.out; have ft0 := e3.keeps Kt0.out))
  all_goals
    go_wp2_with fail
    go_ret2
    rw [HQ.out]
    exact ⟨v, rfl, hr3, EX.out.trans e3⟩
theorem OwnG.coP {S : Nat → Prop} {w w' : World} {c : List Int × Int} {v : Value} (h : OwnG tI.e w w' v c.1) (hU : Up S w) : CoP S w c (.returned (.tuple #[v, .int .i64 c.2])) w' := ⟨v, rfl, ⟨h.rd, h.inn hU⟩, h.2⟩
set_option maxHeartbeats 4000000 in
set_option maxRecDepth 100000 in
theorem co3 (S : Nat → Prop) (es : List X) (ts : List Tt) (done : List (List Int)) (nd : Nd) (h : Hd) (ve vt vc : Value) (w : World) (hl : RdG w ve es) (ht : RdT S w vt ts) (hd : RdS RdI S w vc done) (hn : RdNd w ⟨h, nd⟩) (hU : Up S w)
    (hs1 : nd.ex.length ≤ 1000000) (hs2 : nd.ag.length ≤ 1000000) (hs3 : ∀ c ∈ done, c.length ≤ 1000) (hk : nd.k = 3) (ha : isIx nd.a done.length = true) :
    Calls Tryz.prog 64 #[ckV ve vt vc, ndV ⟨h, nd⟩] w (CoP S w (colO es ts nd done)) := by
  obtain ⟨ad, cap, rfl, _, _⟩ := hl.shape
  obtain ⟨td, tcap, rfl, _, _⟩ := ht.shape
  obtain ⟨cd, ccap, rfl, _, cc2⟩ := hd.shape
  have HU := Lib.hid hU
  obtain ⟨hnx, hny⟩ := hn
  obtain ⟨xa, xn, xc, xb, xm, xd⟩ := h
  obtain ⟨nk, na, nb, np, ns, ex, ag⟩ := nd
  simp only [Hd.x, Hd.y] at hk ha hnx hny hs1 hs2 ⊢
  subst hk
  obtain ⟨j, rfl⟩ := nat_of ((isIx_iff _ _).1 ha).1
  have hj : j < done.length := by have := ((isIx_iff _ _).1 ha).2; omega
  obtain ⟨g, o, a, c, rfl, d0, hrel⟩ := hd.at rdI_ok j hj
  have hat : atC done (j : Int) = done[j] := by simp [atC, List.getD, hj]
  have hsa := hs3 done[j] (List.getElem_mem _)
  have HQ := Lib.hid (show colO es ts ⟨3, j, nb, np, ns, ex, ag⟩ done = typC es ex done[j] by simp [colO, hat])
  clear hat
  generalize done[j] = A at *
  obtain ⟨rfl, _, _⟩ := hnx.len
  have HC := Lib.hid (fun w' (hE : Ext w w') => (typ_prg es ex A td (some ⟨g, o, none⟩) ts.length done.length tcap ccap _ _ _ w' (hl.ext hE) (hnx.ext hE) (hrel.1.ext hE) hs1).mono (R' := CoP S w' (typC es ex A)) (by rintro _ _ ⟨v, rfl, hO⟩; exact hO.coP (hU.ext hE)))
  obtain ⟨xn, hxn⟩ : ∃ xn, xn = ex.length := ⟨_, rfl⟩
  rw [← hxn] at HC ⊢
  clear hxn
  obtain ⟨n, hn⟩ : ∃ n, n = es.length := ⟨_, rfl⟩
  obtain ⟨m, hm⟩ : ∃ m, m = ts.length := ⟨_, rfl⟩
  obtain ⟨r, hr⟩ : ∃ r, r = done.length := ⟨_, rfl⟩
  have HJ := Lib.hid hj
  have HR := Lib.hid hr
  try rw [← hn, ← hm, ← hr] at HC
  rw [← hn, ← hm, ← hr]
  rw [← hr] at hj
  unfold maxLen at cc2
  clear hl ht hd hnx hny hs1 hs2 hs3 ha hn hm hr
  obtain ⟨w0, hw0⟩ : ∃ w0, w0 = (w.alloc (.cells #[.slice ad n cap, .slice td m tcap, .slice (some ⟨g, o, none⟩) r ccap] 108)).alloc (.cells #[.int .i64 3, .int .i64 (j : Int), .int .i64 nb, .int .i64 np, sv ns, .slice xa xn xc, .slice xb xm xd] 45) := ⟨_, rfl⟩
  have EX := Lib.hid (show Ext w w0 by rw [hw0]; exact ((Ext.refl _).alloc _ _).alloc _ _)
  have HC0 := Lib.hid (fun w' (hE : Ext w0 w') => (HC.out w' (EX.out.trans hE)).mono fun _ _ h => CoP.trans hE h)
  have p0 : w0.cell? ⟨w.heap.size, 0, none⟩ = some (.slice ad n cap) := by rw [hw0]; exact ((Ext.refl _).alloc _ _).keeps (al_c w _ _ 0 _ rfl)
  have p1 : w0.cell? ⟨w.heap.size, 1, none⟩ = some (.slice td m tcap) := by rw [hw0]; exact ((Ext.refl _).alloc _ _).keeps (al_c w _ _ 1 _ rfl)
  have p2 : w0.cell? ⟨w.heap.size, 2, none⟩ = some (.slice (some ⟨g, o, none⟩) r ccap) := by rw [hw0]; exact ((Ext.refl _).alloc _ _).keeps (al_c w _ _ 2 _ rfl)
  have q5 : w0.cell? ⟨w.heap.size + 1, 5, none⟩ = some (.slice xa xn xc) := by rw [hw0]; have := al_c (w.alloc (.cells #[.slice ad n cap, .slice td m tcap, .slice (some ⟨g, o, none⟩) r ccap] 108)) #[.int .i64 3, .int .i64 (j : Int), .int .i64 nb, .int .i64 np, sv ns, .slice xa xn xc, .slice xb xm xd] 45 5 _ rfl; rw [alsz] at this; exact this
  have q1 : w0.cell? ⟨w.heap.size + 1, 1, none⟩ = some (.int .i64 (j : Int)) := by rw [hw0]; have := al_c (w.alloc (.cells #[.slice ad n cap, .slice td m tcap, .slice (some ⟨g, o, none⟩) r ccap] 108)) #[.int .i64 3, .int .i64 (j : Int), .int .i64 nb, .int .i64 np, sv ns, .slice xa xn xc, .slice xb xm xd] 45 1 _ rfl; rw [alsz] at this; exact this
  have t0 := EX.out.keeps d0
  have HW0 := Lib.hid hw0
  clear d0 hw0
  obtain ⟨al, hal⟩ : ∃ al, al = A.length := ⟨_, rfl⟩
  rw [← hal] at t0 HC HC0
  clear HC hal
  have Kp0 := Lib.hid p0
  have Kp1 := Lib.hid p1
  have Kp2 := Lib.hid p2
  have Kq5 := Lib.hid q5
  have Kq1 := Lib.hid q1
  have Kt0 := Lib.hid t0
  go_enter Tryz.func64, Tryz.ntmps64
  go_wp2_with fail
  rw [← HW0.out]
  clear HW0
  go_region_held3 (fun w' => w'.cell? ⟨w.heap.size, 0, none⟩ = some (.slice ad n cap) ∧ w'.cell? ⟨w.heap.size, 1, none⟩ = some (.slice td m tcap) ∧ w'.cell? ⟨w.heap.size, 2, none⟩ = some (.slice (some ⟨g, o, none⟩) r ccap) ∧ w'.cell? ⟨w.heap.size + 1, 5, none⟩ = some (.slice xa xn xc) ∧ w'.cell? ⟨w.heap.size + 1, 1, none⟩ = some (.int .i64 (j : Int)) ∧ w'.cell? ⟨g, o + j, none⟩ = some (.slice a al c)) (first | exact ⟨Kp0.out, Kp1.out, Kp2.out, Kq5.out, Kq1.out, Kt0.out⟩ | exact ⟨fp0, fp1, fp2, fq5, fq1, ft0⟩ | go_keep)
    (first | (go_at_call 93; refine (HC0.out _ ?_).mono ?_; (first | exact Ext.refl _ | exact (Ext.refl _).drew); rintro e w3 ⟨v, rfl, hr3, e3⟩; have fp0 := e3.keeps Kp0.out; have fp1 := e3.keeps Kp1.out; have fp2 := e3.keeps Kp2.out; have fq5 := e3.keeps Kq5.out; have fq1 := e3.keeps Kq1.out; have ft0 := e3.keeps Kt0.out))
  all_goals
    go_wp2_with fail
    go_ret2
    rw [HQ.out]
    exact ⟨v, rfl, hr3, EX.out.trans e3⟩
set_option maxHeartbeats 4000000 in
set_option maxRecDepth 100000 in
theorem co6 (S : Nat → Prop) (es : List X) (ts : List Tt) (done : List (List Int)) (nd : Nd) (h : Hd) (ve vt vc : Value) (w : World) (hl : RdG w ve es) (ht : RdT S w vt ts) (hd : RdS RdI S w vc done) (hn : RdNd w ⟨h, nd⟩) (hU : Up S w)
    (hs1 : nd.ex.length ≤ 1000000) (hs2 : nd.ag.length ≤ 1000000) (hs3 : ∀ c ∈ done, c.length ≤ 1000) (hk : nd.k = 6) (ha : isIx nd.a done.length = true) (hb : isIx nd.b done.length = true) :
    Calls Tryz.prog 64 #[ckV ve vt vc, ndV ⟨h, nd⟩] w (CoP S w (colO es ts nd done)) := by
  obtain ⟨ad, cap, rfl, _, _⟩ := hl.shape
  obtain ⟨td, tcap, rfl, _, _⟩ := ht.shape
  obtain ⟨cd, ccap, rfl, _, cc2⟩ := hd.shape
  have HU := Lib.hid hU
  obtain ⟨hnx, hny⟩ := hn
  obtain ⟨xa, xn, xc, xb, xm, xd⟩ := h
  obtain ⟨nk, na, nb, np, ns, ex, ag⟩ := nd
  simp only [Hd.x, Hd.y] at hk ha hnx hny hs1 hs2 hb ⊢
  subst hk
  obtain ⟨j, rfl⟩ := nat_of ((isIx_iff _ _).1 ha).1
  have hj : j < done.length := by have := ((isIx_iff _ _).1 ha).2; omega
  obtain ⟨g, o, a, c, rfl, d0, hrel⟩ := hd.at rdI_ok j hj
  have hat : atC done (j : Int) = done[j] := by simp [atC, List.getD, hj]
  obtain ⟨i, rfl⟩ := nat_of ((isIx_iff _ _).1 hb).1
  have hi : i < done.length := by have := ((isIx_iff _ _).1 hb).2; omega
  obtain ⟨g', o', a', c', e', d1, hrel'⟩ := hd.at rdI_ok i hi
  simp only [Option.some.injEq, Addr.mk.injEq, and_true] at e'
  obtain ⟨rfl, rfl⟩ := e'
  have hat' : atC done (i : Int) = done[i] := by simp [atC, List.getD, hi]
  have hsb := hs3 done[i] (List.getElem_mem _)
  have hsa := hs3 done[j] (List.getElem_mem _)
  have HQ := Lib.hid (show colO es ts ⟨6, j, i, np, ns, ex, ag⟩ done = cmnC done[j] done[i] by simp [colO, hat, hat'])
  clear hat'
  generalize done[i] = B at *
  clear hat
  generalize done[j] = A at *
  have HC := Lib.hid (fun w' (hE : Ext w w') => cmn_prg S A B _ _ w' (hrel.1.ext hE) (hrel'.1.ext hE) (hU.ext hE) (by omega))
  obtain ⟨n, hn⟩ : ∃ n, n = es.length := ⟨_, rfl⟩
  obtain ⟨m, hm⟩ : ∃ m, m = ts.length := ⟨_, rfl⟩
  obtain ⟨r, hr⟩ : ∃ r, r = done.length := ⟨_, rfl⟩
  have HJ := Lib.hid hj
  have HI := Lib.hid hi
  have HR := Lib.hid hr
  try rw [← hn, ← hm, ← hr] at HC
  rw [← hn, ← hm, ← hr]
  rw [← hr] at hj hi
  unfold maxLen at cc2
  clear hl ht hd hnx hny hs1 hs2 hs3 ha hb hn hm hr
  obtain ⟨w0, hw0⟩ : ∃ w0, w0 = (w.alloc (.cells #[.slice ad n cap, .slice td m tcap, .slice (some ⟨g, o, none⟩) r ccap] 108)).alloc (.cells #[.int .i64 6, .int .i64 (j : Int), .int .i64 (i : Int), .int .i64 np, sv ns, .slice xa xn xc, .slice xb xm xd] 45) := ⟨_, rfl⟩
  have EX := Lib.hid (show Ext w w0 by rw [hw0]; exact ((Ext.refl _).alloc _ _).alloc _ _)
  have HC0 := Lib.hid (fun w' (hE : Ext w0 w') => (HC.out w' (EX.out.trans hE)).mono fun _ _ h => CoP.trans hE h)
  have p0 : w0.cell? ⟨w.heap.size, 0, none⟩ = some (.slice ad n cap) := by rw [hw0]; exact ((Ext.refl _).alloc _ _).keeps (al_c w _ _ 0 _ rfl)
  have p1 : w0.cell? ⟨w.heap.size, 1, none⟩ = some (.slice td m tcap) := by rw [hw0]; exact ((Ext.refl _).alloc _ _).keeps (al_c w _ _ 1 _ rfl)
  have p2 : w0.cell? ⟨w.heap.size, 2, none⟩ = some (.slice (some ⟨g, o, none⟩) r ccap) := by rw [hw0]; exact ((Ext.refl _).alloc _ _).keeps (al_c w _ _ 2 _ rfl)
  have q1 : w0.cell? ⟨w.heap.size + 1, 1, none⟩ = some (.int .i64 (j : Int)) := by rw [hw0]; have := al_c (w.alloc (.cells #[.slice ad n cap, .slice td m tcap, .slice (some ⟨g, o, none⟩) r ccap] 108)) #[.int .i64 6, .int .i64 (j : Int), .int .i64 (i : Int), .int .i64 np, sv ns, .slice xa xn xc, .slice xb xm xd] 45 1 _ rfl; rw [alsz] at this; exact this
  have q2 : w0.cell? ⟨w.heap.size + 1, 2, none⟩ = some (.int .i64 (i : Int)) := by rw [hw0]; have := al_c (w.alloc (.cells #[.slice ad n cap, .slice td m tcap, .slice (some ⟨g, o, none⟩) r ccap] 108)) #[.int .i64 6, .int .i64 (j : Int), .int .i64 (i : Int), .int .i64 np, sv ns, .slice xa xn xc, .slice xb xm xd] 45 2 _ rfl; rw [alsz] at this; exact this
  have t0 := EX.out.keeps d0
  have t1 := EX.out.keeps d1
  have HW0 := Lib.hid hw0
  clear d0 d1 hw0
  obtain ⟨al, hal⟩ : ∃ al, al = A.length := ⟨_, rfl⟩
  obtain ⟨bl, hbl⟩ : ∃ bl, bl = B.length := ⟨_, rfl⟩
  rw [← hal] at t0 HC HC0
  rw [← hbl] at t1 HC HC0
  clear HC hal hbl
  have Kp0 := Lib.hid p0
  have Kp1 := Lib.hid p1
  have Kp2 := Lib.hid p2
  have Kq1 := Lib.hid q1
  have Kq2 := Lib.hid q2
  have Kt0 := Lib.hid t0
  have Kt1 := Lib.hid t1
  go_enter Tryz.func64, Tryz.ntmps64
  go_wp2_with fail
  rw [← HW0.out]
  clear HW0
  go_region_held3 (fun w' => w'.cell? ⟨w.heap.size, 0, none⟩ = some (.slice ad n cap) ∧ w'.cell? ⟨w.heap.size, 1, none⟩ = some (.slice td m tcap) ∧ w'.cell? ⟨w.heap.size, 2, none⟩ = some (.slice (some ⟨g, o, none⟩) r ccap) ∧ w'.cell? ⟨w.heap.size + 1, 1, none⟩ = some (.int .i64 (j : Int)) ∧ w'.cell? ⟨w.heap.size + 1, 2, none⟩ = some (.int .i64 (i : Int)) ∧ w'.cell? ⟨g, o + j, none⟩ = some (.slice a al c) ∧ w'.cell? ⟨g, o + i, none⟩ = some (Value.slice a' bl c')) (first | exact ⟨Kp0.out, Kp1.out, Kp2.out, Kq1.out, Kq2.out, Kt0.out, Kt1.out⟩ | exact ⟨fp0, fp1, fp2, fq1, fq2, ft0, ft1⟩ | go_keep)
    (first | (go_at_call 94; refine (HC0.out _ ?_).mono ?_; (first | exact Ext.refl _ | exact (Ext.refl _).drew); rintro e w3 ⟨v, rfl, hr3, e3⟩; have fp0 := e3.keeps Kp0.out; have fp1 := e3.keeps Kp1.out; have fp2 := e3.keeps Kp2.out; have fq1 := e3.keeps Kq1.out; have fq2 := e3.keeps Kq2.out; have ft0 := e3.keeps Kt0.out; have ft1 := e3.keeps Kt1.out))
  all_goals
    go_wp2_with fail
    go_ret2
    rw [HQ.out]
    exact ⟨v, rfl, hr3, EX.out.trans e3⟩
set_option maxHeartbeats 4000000 in
set_option maxRecDepth 100000 in
theorem co7 (S : Nat → Prop) (es : List X) (ts : List Tt) (done : List (List Int)) (nd : Nd) (h : Hd) (ve vt vc : Value) (w : World) (hl : RdG w ve es) (ht : RdT S w vt ts) (hd : RdS RdI S w vc done) (hn : RdNd w ⟨h, nd⟩) (hU : Up S w)
    (hs1 : nd.ex.length ≤ 1000000) (hs2 : nd.ag.length ≤ 1000000) (hs3 : ∀ c ∈ done, c.length ≤ 1000) (hk : nd.k = 7) (ha : isIx nd.a done.length = true) (hb : isIx nd.b done.length = true) :
    Calls Tryz.prog 64 #[ckV ve vt vc, ndV ⟨h, nd⟩] w (CoP S w (colO es ts nd done)) := by
  obtain ⟨ad, cap, rfl, _, _⟩ := hl.shape
  obtain ⟨td, tcap, rfl, _, _⟩ := ht.shape
  obtain ⟨cd, ccap, rfl, _, cc2⟩ := hd.shape
  have HU := Lib.hid hU
  obtain ⟨hnx, hny⟩ := hn
  obtain ⟨xa, xn, xc, xb, xm, xd⟩ := h
  obtain ⟨nk, na, nb, np, ns, ex, ag⟩ := nd
  simp only [Hd.x, Hd.y] at hk ha hnx hny hs1 hs2 hb ⊢
  subst hk
  obtain ⟨j, rfl⟩ := nat_of ((isIx_iff _ _).1 ha).1
  have hj : j < done.length := by have := ((isIx_iff _ _).1 ha).2; omega
  obtain ⟨g, o, a, c, rfl, d0, hrel⟩ := hd.at rdI_ok j hj
  have hat : atC done (j : Int) = done[j] := by simp [atC, List.getD, hj]
  obtain ⟨i, rfl⟩ := nat_of ((isIx_iff _ _).1 hb).1
  have hi : i < done.length := by have := ((isIx_iff _ _).1 hb).2; omega
  obtain ⟨g', o', a', c', e', d1, hrel'⟩ := hd.at rdI_ok i hi
  simp only [Option.some.injEq, Addr.mk.injEq, and_true] at e'
  obtain ⟨rfl, rfl⟩ := e'
  have hat' : atC done (i : Int) = done[i] := by simp [atC, List.getD, hi]
  have hsb := hs3 done[i] (List.getElem_mem _)
  have hsa := hs3 done[j] (List.getElem_mem _)
  have HQ := Lib.hid (show colO es ts ⟨7, j, i, np, ns, ex, ag⟩ done = cmnC done[j] done[i] by simp [colO, hat, hat'])
  clear hat'
  generalize done[i] = B at *
  clear hat
  generalize done[j] = A at *
  have HC := Lib.hid (fun w' (hE : Ext w w') => cmn_prg S A B _ _ w' (hrel.1.ext hE) (hrel'.1.ext hE) (hU.ext hE) (by omega))
  obtain ⟨n, hn⟩ : ∃ n, n = es.length := ⟨_, rfl⟩
  obtain ⟨m, hm⟩ : ∃ m, m = ts.length := ⟨_, rfl⟩
  obtain ⟨r, hr⟩ : ∃ r, r = done.length := ⟨_, rfl⟩
  have HJ := Lib.hid hj
  have HI := Lib.hid hi
  have HR := Lib.hid hr
  try rw [← hn, ← hm, ← hr] at HC
  rw [← hn, ← hm, ← hr]
  rw [← hr] at hj hi
  unfold maxLen at cc2
  clear hl ht hd hnx hny hs1 hs2 hs3 ha hb hn hm hr
  obtain ⟨w0, hw0⟩ : ∃ w0, w0 = (w.alloc (.cells #[.slice ad n cap, .slice td m tcap, .slice (some ⟨g, o, none⟩) r ccap] 108)).alloc (.cells #[.int .i64 7, .int .i64 (j : Int), .int .i64 (i : Int), .int .i64 np, sv ns, .slice xa xn xc, .slice xb xm xd] 45) := ⟨_, rfl⟩
  have EX := Lib.hid (show Ext w w0 by rw [hw0]; exact ((Ext.refl _).alloc _ _).alloc _ _)
  have HC0 := Lib.hid (fun w' (hE : Ext w0 w') => (HC.out w' (EX.out.trans hE)).mono fun _ _ h => CoP.trans hE h)
  have p0 : w0.cell? ⟨w.heap.size, 0, none⟩ = some (.slice ad n cap) := by rw [hw0]; exact ((Ext.refl _).alloc _ _).keeps (al_c w _ _ 0 _ rfl)
  have p1 : w0.cell? ⟨w.heap.size, 1, none⟩ = some (.slice td m tcap) := by rw [hw0]; exact ((Ext.refl _).alloc _ _).keeps (al_c w _ _ 1 _ rfl)
  have p2 : w0.cell? ⟨w.heap.size, 2, none⟩ = some (.slice (some ⟨g, o, none⟩) r ccap) := by rw [hw0]; exact ((Ext.refl _).alloc _ _).keeps (al_c w _ _ 2 _ rfl)
  have q1 : w0.cell? ⟨w.heap.size + 1, 1, none⟩ = some (.int .i64 (j : Int)) := by rw [hw0]; have := al_c (w.alloc (.cells #[.slice ad n cap, .slice td m tcap, .slice (some ⟨g, o, none⟩) r ccap] 108)) #[.int .i64 7, .int .i64 (j : Int), .int .i64 (i : Int), .int .i64 np, sv ns, .slice xa xn xc, .slice xb xm xd] 45 1 _ rfl; rw [alsz] at this; exact this
  have q2 : w0.cell? ⟨w.heap.size + 1, 2, none⟩ = some (.int .i64 (i : Int)) := by rw [hw0]; have := al_c (w.alloc (.cells #[.slice ad n cap, .slice td m tcap, .slice (some ⟨g, o, none⟩) r ccap] 108)) #[.int .i64 7, .int .i64 (j : Int), .int .i64 (i : Int), .int .i64 np, sv ns, .slice xa xn xc, .slice xb xm xd] 45 2 _ rfl; rw [alsz] at this; exact this
  have t0 := EX.out.keeps d0
  have t1 := EX.out.keeps d1
  have HW0 := Lib.hid hw0
  clear d0 d1 hw0
  obtain ⟨al, hal⟩ : ∃ al, al = A.length := ⟨_, rfl⟩
  obtain ⟨bl, hbl⟩ : ∃ bl, bl = B.length := ⟨_, rfl⟩
  rw [← hal] at t0 HC HC0
  rw [← hbl] at t1 HC HC0
  clear HC hal hbl
  have Kp0 := Lib.hid p0
  have Kp1 := Lib.hid p1
  have Kp2 := Lib.hid p2
  have Kq1 := Lib.hid q1
  have Kq2 := Lib.hid q2
  have Kt0 := Lib.hid t0
  have Kt1 := Lib.hid t1
  go_enter Tryz.func64, Tryz.ntmps64
  go_wp2_with fail
  rw [← HW0.out]
  clear HW0
  go_region_held3 (fun w' => w'.cell? ⟨w.heap.size, 0, none⟩ = some (.slice ad n cap) ∧ w'.cell? ⟨w.heap.size, 1, none⟩ = some (.slice td m tcap) ∧ w'.cell? ⟨w.heap.size, 2, none⟩ = some (.slice (some ⟨g, o, none⟩) r ccap) ∧ w'.cell? ⟨w.heap.size + 1, 1, none⟩ = some (.int .i64 (j : Int)) ∧ w'.cell? ⟨w.heap.size + 1, 2, none⟩ = some (.int .i64 (i : Int)) ∧ w'.cell? ⟨g, o + j, none⟩ = some (.slice a al c) ∧ w'.cell? ⟨g, o + i, none⟩ = some (Value.slice a' bl c')) (first | exact ⟨Kp0.out, Kp1.out, Kp2.out, Kq1.out, Kq2.out, Kt0.out, Kt1.out⟩ | exact ⟨fp0, fp1, fp2, fq1, fq2, ft0, ft1⟩ | go_keep)
    (first | (go_at_call 94; refine (HC0.out _ ?_).mono ?_; (first | exact Ext.refl _ | exact (Ext.refl _).drew); rintro e w3 ⟨v, rfl, hr3, e3⟩; have fp0 := e3.keeps Kp0.out; have fp1 := e3.keeps Kp1.out; have fp2 := e3.keeps Kp2.out; have fq1 := e3.keeps Kq1.out; have fq2 := e3.keeps Kq2.out; have ft0 := e3.keeps Kt0.out; have ft1 := e3.keeps Kt1.out))
  all_goals
    go_wp2_with fail
    go_ret2
    rw [HQ.out]
    exact ⟨v, rfl, hr3, EX.out.trans e3⟩
set_option maxHeartbeats 4000000 in
set_option maxRecDepth 100000 in
theorem co8 (S : Nat → Prop) (es : List X) (ts : List Tt) (done : List (List Int)) (nd : Nd) (h : Hd) (ve vt vc : Value) (w : World) (hl : RdG w ve es) (ht : RdT S w vt ts) (hd : RdS RdI S w vc done) (hn : RdNd w ⟨h, nd⟩) (hU : Up S w)
    (hs1 : nd.ex.length ≤ 1000000) (hs2 : nd.ag.length ≤ 1000000) (hs3 : ∀ c ∈ done, c.length ≤ 1000) (hk : nd.k = 8) (ha : isIx nd.a done.length = true) (hb : isIx nd.b done.length = true) :
    Calls Tryz.prog 64 #[ckV ve vt vc, ndV ⟨h, nd⟩] w (CoP S w (colO es ts nd done)) := by
  obtain ⟨ad, cap, rfl, _, _⟩ := hl.shape
  obtain ⟨td, tcap, rfl, _, _⟩ := ht.shape
  obtain ⟨cd, ccap, rfl, _, cc2⟩ := hd.shape
  have HU := Lib.hid hU
  obtain ⟨hnx, hny⟩ := hn
  obtain ⟨xa, xn, xc, xb, xm, xd⟩ := h
  obtain ⟨nk, na, nb, np, ns, ex, ag⟩ := nd
  simp only [Hd.x, Hd.y] at hk ha hnx hny hs1 hs2 hb ⊢
  subst hk
  obtain ⟨j, rfl⟩ := nat_of ((isIx_iff _ _).1 ha).1
  have hj : j < done.length := by have := ((isIx_iff _ _).1 ha).2; omega
  obtain ⟨g, o, a, c, rfl, d0, hrel⟩ := hd.at rdI_ok j hj
  have hat : atC done (j : Int) = done[j] := by simp [atC, List.getD, hj]
  obtain ⟨i, rfl⟩ := nat_of ((isIx_iff _ _).1 hb).1
  have hi : i < done.length := by have := ((isIx_iff _ _).1 hb).2; omega
  obtain ⟨g', o', a', c', e', d1, hrel'⟩ := hd.at rdI_ok i hi
  simp only [Option.some.injEq, Addr.mk.injEq, and_true] at e'
  obtain ⟨rfl, rfl⟩ := e'
  have hat' : atC done (i : Int) = done[i] := by simp [atC, List.getD, hi]
  have hsb := hs3 done[i] (List.getElem_mem _)
  have hsa := hs3 done[j] (List.getElem_mem _)
  have HQ := Lib.hid (show colO es ts ⟨8, j, i, np, ns, ex, ag⟩ done = cmnC done[j] done[i] by simp [colO, hat, hat'])
  clear hat'
  generalize done[i] = B at *
  clear hat
  generalize done[j] = A at *
  have HC := Lib.hid (fun w' (hE : Ext w w') => cmn_prg S A B _ _ w' (hrel.1.ext hE) (hrel'.1.ext hE) (hU.ext hE) (by omega))
  obtain ⟨n, hn⟩ : ∃ n, n = es.length := ⟨_, rfl⟩
  obtain ⟨m, hm⟩ : ∃ m, m = ts.length := ⟨_, rfl⟩
  obtain ⟨r, hr⟩ : ∃ r, r = done.length := ⟨_, rfl⟩
  have HJ := Lib.hid hj
  have HI := Lib.hid hi
  have HR := Lib.hid hr
  try rw [← hn, ← hm, ← hr] at HC
  rw [← hn, ← hm, ← hr]
  rw [← hr] at hj hi
  unfold maxLen at cc2
  clear hl ht hd hnx hny hs1 hs2 hs3 ha hb hn hm hr
  obtain ⟨w0, hw0⟩ : ∃ w0, w0 = (w.alloc (.cells #[.slice ad n cap, .slice td m tcap, .slice (some ⟨g, o, none⟩) r ccap] 108)).alloc (.cells #[.int .i64 8, .int .i64 (j : Int), .int .i64 (i : Int), .int .i64 np, sv ns, .slice xa xn xc, .slice xb xm xd] 45) := ⟨_, rfl⟩
  have EX := Lib.hid (show Ext w w0 by rw [hw0]; exact ((Ext.refl _).alloc _ _).alloc _ _)
  have HC0 := Lib.hid (fun w' (hE : Ext w0 w') => (HC.out w' (EX.out.trans hE)).mono fun _ _ h => CoP.trans hE h)
  have p0 : w0.cell? ⟨w.heap.size, 0, none⟩ = some (.slice ad n cap) := by rw [hw0]; exact ((Ext.refl _).alloc _ _).keeps (al_c w _ _ 0 _ rfl)
  have p1 : w0.cell? ⟨w.heap.size, 1, none⟩ = some (.slice td m tcap) := by rw [hw0]; exact ((Ext.refl _).alloc _ _).keeps (al_c w _ _ 1 _ rfl)
  have p2 : w0.cell? ⟨w.heap.size, 2, none⟩ = some (.slice (some ⟨g, o, none⟩) r ccap) := by rw [hw0]; exact ((Ext.refl _).alloc _ _).keeps (al_c w _ _ 2 _ rfl)
  have q1 : w0.cell? ⟨w.heap.size + 1, 1, none⟩ = some (.int .i64 (j : Int)) := by rw [hw0]; have := al_c (w.alloc (.cells #[.slice ad n cap, .slice td m tcap, .slice (some ⟨g, o, none⟩) r ccap] 108)) #[.int .i64 8, .int .i64 (j : Int), .int .i64 (i : Int), .int .i64 np, sv ns, .slice xa xn xc, .slice xb xm xd] 45 1 _ rfl; rw [alsz] at this; exact this
  have q2 : w0.cell? ⟨w.heap.size + 1, 2, none⟩ = some (.int .i64 (i : Int)) := by rw [hw0]; have := al_c (w.alloc (.cells #[.slice ad n cap, .slice td m tcap, .slice (some ⟨g, o, none⟩) r ccap] 108)) #[.int .i64 8, .int .i64 (j : Int), .int .i64 (i : Int), .int .i64 np, sv ns, .slice xa xn xc, .slice xb xm xd] 45 2 _ rfl; rw [alsz] at this; exact this
  have t0 := EX.out.keeps d0
  have t1 := EX.out.keeps d1
  have HW0 := Lib.hid hw0
  clear d0 d1 hw0
  obtain ⟨al, hal⟩ : ∃ al, al = A.length := ⟨_, rfl⟩
  obtain ⟨bl, hbl⟩ : ∃ bl, bl = B.length := ⟨_, rfl⟩
  rw [← hal] at t0 HC HC0
  rw [← hbl] at t1 HC HC0
  clear HC hal hbl
  have Kp0 := Lib.hid p0
  have Kp1 := Lib.hid p1
  have Kp2 := Lib.hid p2
  have Kq1 := Lib.hid q1
  have Kq2 := Lib.hid q2
  have Kt0 := Lib.hid t0
  have Kt1 := Lib.hid t1
  go_enter Tryz.func64, Tryz.ntmps64
  go_wp2_with fail
  rw [← HW0.out]
  clear HW0
  go_region_held3 (fun w' => w'.cell? ⟨w.heap.size, 0, none⟩ = some (.slice ad n cap) ∧ w'.cell? ⟨w.heap.size, 1, none⟩ = some (.slice td m tcap) ∧ w'.cell? ⟨w.heap.size, 2, none⟩ = some (.slice (some ⟨g, o, none⟩) r ccap) ∧ w'.cell? ⟨w.heap.size + 1, 1, none⟩ = some (.int .i64 (j : Int)) ∧ w'.cell? ⟨w.heap.size + 1, 2, none⟩ = some (.int .i64 (i : Int)) ∧ w'.cell? ⟨g, o + j, none⟩ = some (.slice a al c) ∧ w'.cell? ⟨g, o + i, none⟩ = some (Value.slice a' bl c')) (first | exact ⟨Kp0.out, Kp1.out, Kp2.out, Kq1.out, Kq2.out, Kt0.out, Kt1.out⟩ | exact ⟨fp0, fp1, fp2, fq1, fq2, ft0, ft1⟩ | go_keep)
    (first | (go_at_call 94; refine (HC0.out _ ?_).mono ?_; (first | exact Ext.refl _ | exact (Ext.refl _).drew); rintro e w3 ⟨v, rfl, hr3, e3⟩; have fp0 := e3.keeps Kp0.out; have fp1 := e3.keeps Kp1.out; have fp2 := e3.keeps Kp2.out; have fq1 := e3.keeps Kq1.out; have fq2 := e3.keeps Kq2.out; have ft0 := e3.keeps Kt0.out; have ft1 := e3.keeps Kt1.out))
  all_goals
    go_wp2_with fail
    go_ret2
    rw [HQ.out]
    exact ⟨v, rfl, hr3, EX.out.trans e3⟩
set_option maxHeartbeats 4000000 in
set_option maxRecDepth 100000 in
theorem co4 (S : Nat → Prop) (es : List X) (ts : List Tt) (done : List (List Int)) (nd : Nd) (h : Hd) (ve vt vc : Value) (w : World) (hl : RdG w ve es) (ht : RdT S w vt ts) (hd : RdS RdI S w vc done) (hn : RdNd w ⟨h, nd⟩) (hU : Up S w)
    (hs1 : nd.ex.length ≤ 1000000) (hs2 : nd.ag.length ≤ 1000000) (hs3 : ∀ c ∈ done, c.length ≤ 1000) (hk : nd.k = 4) (ha : isIx nd.a done.length = true) (hb : isIx nd.b done.length = true) :
    Calls Tryz.prog 64 #[ckV ve vt vc, ndV ⟨h, nd⟩] w (CoP S w (colO es ts nd done)) := by
  obtain ⟨ad, cap, rfl, _, _⟩ := hl.shape
  obtain ⟨td, tcap, rfl, _, _⟩ := ht.shape
  obtain ⟨cd, ccap, rfl, _, cc2⟩ := hd.shape
  have HU := Lib.hid hU
  obtain ⟨hnx, hny⟩ := hn
  obtain ⟨xa, xn, xc, xb, xm, xd⟩ := h
  obtain ⟨nk, na, nb, np, ns, ex, ag⟩ := nd
  simp only [Hd.x, Hd.y] at hk ha hnx hny hs1 hs2 hb ⊢
  subst hk
  obtain ⟨j, rfl⟩ := nat_of ((isIx_iff _ _).1 ha).1
  have hj : j < done.length := by have := ((isIx_iff _ _).1 ha).2; omega
  obtain ⟨g, o, a, c, rfl, d0, hrel⟩ := hd.at rdI_ok j hj
  have hat : atC done (j : Int) = done[j] := by simp [atC, List.getD, hj]
  obtain ⟨i, rfl⟩ := nat_of ((isIx_iff _ _).1 hb).1
  have hi : i < done.length := by have := ((isIx_iff _ _).1 hb).2; omega
  obtain ⟨g', o', a', c', e', d1, hrel'⟩ := hd.at rdI_ok i hi
  simp only [Option.some.injEq, Addr.mk.injEq, and_true] at e'
  obtain ⟨rfl, rfl⟩ := e'
  have hat' : atC done (i : Int) = done[i] := by simp [atC, List.getD, hi]
  have hsb := hs3 done[i] (List.getElem_mem _)
  have hsa := hs3 done[j] (List.getElem_mem _)
  have HQ := Lib.hid (show colO es ts ⟨4, j, i, np, ns, ex, ag⟩ done = prdC es np (done[j] ++ done[i]) by simp [colO, hat, hat'])
  clear hat'
  generalize done[i] = B at *
  clear hat
  generalize done[j] = A at *
  obtain ⟨D, hD⟩ : ∃ D, D = A ++ B := ⟨_, rfl⟩
  rw [← hD] at HQ
  have hdl : D.length ≤ 100000000 := by rw [hD, List.length_append]; omega
  have HCA := Lib.hid (fun (X : World) (b : Nat) (hE : Ext w X) (g0 : X.cell? ⟨b, 0, none⟩ = some (.slice a A.length c)) (g1 : X.cell? ⟨b, 1, none⟩ = some (.slice a' B.length c')) => concat_I A B _ _ b X (hrel.1.ext hE) (hrel'.1.ext hE) g0 g1 (by omega))
  rw [← hD] at HCA
  have HC := Lib.hid (fun w' (hE : Ext w w') vD (hr : RdI S w' vD D) => pred_prg S es np D td (some ⟨g, o, none⟩) ts.length done.length tcap ccap _ vD w' (hl.ext hE) hr)
  clear hD
  obtain ⟨n, hn⟩ : ∃ n, n = es.length := ⟨_, rfl⟩
  obtain ⟨m, hm⟩ : ∃ m, m = ts.length := ⟨_, rfl⟩
  obtain ⟨r, hr⟩ : ∃ r, r = done.length := ⟨_, rfl⟩
  have HJ := Lib.hid hj
  have HI := Lib.hid hi
  have HR := Lib.hid hr
  try rw [← hn, ← hm, ← hr] at HC
  rw [← hn, ← hm, ← hr]
  rw [← hr] at hj hi
  unfold maxLen at cc2
  clear hl ht hd hnx hny hs1 hs2 hs3 ha hb hn hm hr
  obtain ⟨w0, hw0⟩ : ∃ w0, w0 = (w.alloc (.cells #[.slice ad n cap, .slice td m tcap, .slice (some ⟨g, o, none⟩) r ccap] 108)).alloc (.cells #[.int .i64 4, .int .i64 (j : Int), .int .i64 (i : Int), .int .i64 np, sv ns, .slice xa xn xc, .slice xb xm xd] 45) := ⟨_, rfl⟩
  have EX := Lib.hid (show Ext w w0 by rw [hw0]; exact ((Ext.refl _).alloc _ _).alloc _ _)
  have HC0 := Lib.hid (fun w' (hE : Ext w0 w') vD (hr : RdI S w' vD D) => (HC.out w' (EX.out.trans hE) vD hr).mono fun _ _ h => CoP.trans hE h)
  have HCC := Lib.hid (fun (X : World) (hE : Ext w0 X) (b : Nat) g0 g1 => (HCA.out X b (EX.out.trans hE) g0 g1).mono (R' := fun e w' => ∃ v, e = .returned v ∧ RdI S w' v D ∧ Ext w0 w') (by rintro _ _ ⟨v, rfl, hO⟩; exact ⟨v, rfl, ⟨hO.rd, hO.inn (HU.out.ext (EX.out.trans hE))⟩, hE.trans hO.2⟩))
  clear HCA
  have p0 : w0.cell? ⟨w.heap.size, 0, none⟩ = some (.slice ad n cap) := by rw [hw0]; exact ((Ext.refl _).alloc _ _).keeps (al_c w _ _ 0 _ rfl)
  have p1 : w0.cell? ⟨w.heap.size, 1, none⟩ = some (.slice td m tcap) := by rw [hw0]; exact ((Ext.refl _).alloc _ _).keeps (al_c w _ _ 1 _ rfl)
  have p2 : w0.cell? ⟨w.heap.size, 2, none⟩ = some (.slice (some ⟨g, o, none⟩) r ccap) := by rw [hw0]; exact ((Ext.refl _).alloc _ _).keeps (al_c w _ _ 2 _ rfl)
  have q1 : w0.cell? ⟨w.heap.size + 1, 1, none⟩ = some (.int .i64 (j : Int)) := by rw [hw0]; have := al_c (w.alloc (.cells #[.slice ad n cap, .slice td m tcap, .slice (some ⟨g, o, none⟩) r ccap] 108)) #[.int .i64 4, .int .i64 (j : Int), .int .i64 (i : Int), .int .i64 np, sv ns, .slice xa xn xc, .slice xb xm xd] 45 1 _ rfl; rw [alsz] at this; exact this
  have q2 : w0.cell? ⟨w.heap.size + 1, 2, none⟩ = some (.int .i64 (i : Int)) := by rw [hw0]; have := al_c (w.alloc (.cells #[.slice ad n cap, .slice td m tcap, .slice (some ⟨g, o, none⟩) r ccap] 108)) #[.int .i64 4, .int .i64 (j : Int), .int .i64 (i : Int), .int .i64 np, sv ns, .slice xa xn xc, .slice xb xm xd] 45 2 _ rfl; rw [alsz] at this; exact this
  have q3 : w0.cell? ⟨w.heap.size + 1, 3, none⟩ = some (.int .i64 np) := by rw [hw0]; have := al_c (w.alloc (.cells #[.slice ad n cap, .slice td m tcap, .slice (some ⟨g, o, none⟩) r ccap] 108)) #[.int .i64 4, .int .i64 (j : Int), .int .i64 (i : Int), .int .i64 np, sv ns, .slice xa xn xc, .slice xb xm xd] 45 3 _ rfl; rw [alsz] at this; exact this
  have t0 := EX.out.keeps d0
  have t1 := EX.out.keeps d1
  have HW0 := Lib.hid hw0
  clear d0 d1 hw0
  obtain ⟨al, hal⟩ : ∃ al, al = A.length := ⟨_, rfl⟩
  obtain ⟨bl, hbl⟩ : ∃ bl, bl = B.length := ⟨_, rfl⟩
  rw [← hal] at t0 HCC
  rw [← hbl] at t1 HCC
  clear HC hal hbl
  have Kp0 := Lib.hid p0
  have Kp1 := Lib.hid p1
  have Kp2 := Lib.hid p2
  have Kq1 := Lib.hid q1
  have Kq2 := Lib.hid q2
  have Kq3 := Lib.hid q3
  have Kt0 := Lib.hid t0
  have Kt1 := Lib.hid t1
  go_enter Tryz.func64, Tryz.ntmps64
  go_wp2_with fail
  rw [← HW0.out]
  clear HW0
  have HAL := Lib.hid (fun (X : World) (hE : Ext w0 X) => (show Ext w0 (X.alloc (.cells #[.slice a al c, .slice a' bl c'] 41)) from hE.alloc _ _))
  go_region_held3 (fun w' => w'.cell? ⟨w.heap.size, 0, none⟩ = some (.slice ad n cap) ∧ w'.cell? ⟨w.heap.size, 1, none⟩ = some (.slice td m tcap) ∧ w'.cell? ⟨w.heap.size, 2, none⟩ = some (.slice (some ⟨g, o, none⟩) r ccap) ∧ w'.cell? ⟨w.heap.size + 1, 1, none⟩ = some (.int .i64 (j : Int)) ∧ w'.cell? ⟨w.heap.size + 1, 2, none⟩ = some (.int .i64 (i : Int)) ∧ w'.cell? ⟨w.heap.size + 1, 3, none⟩ = some (.int .i64 np) ∧ w'.cell? ⟨g, o + j, none⟩ = some (.slice a al c) ∧ w'.cell? ⟨g, o + i, none⟩ = some (Value.slice a' bl c')) (first | exact ⟨Kp0.out, Kp1.out, Kp2.out, Kq1.out, Kq2.out, Kq3.out, Kt0.out, Kt1.out⟩ | exact ⟨fp0, fp1, fp2, fq1, fq2, fq3, ft0, ft1⟩ | exact ⟨hp0, hp1, hp2, hq1, hq2, hq3, ht0, ht1⟩ | go_keep)
    (first
      | (go_at_call 41; refine (HCC.out _ ?x1 _ ?x2 ?x3).mono ?_; (case x1 => first | exact (Ext.refl _).alloc _ _ | exact ((Ext.refl _).drew).alloc _ _); (case x2 => exact al0 _ _ _ _); (case x3 => exact al1 _ _ _ _); rintro e w3 ⟨v3, rfl, hr3, e3⟩; obtain ⟨a3, c3, rfl, _, _⟩ := hr3.1.shape; have fp0 := e3.keeps Kp0.out; have fp1 := e3.keeps Kp1.out; have fp2 := e3.keeps Kp2.out; have fq1 := e3.keeps Kq1.out; have fq2 := e3.keeps Kq2.out; have fq3 := e3.keeps Kq3.out; have ft0 := e3.keeps Kt0.out; have ft1 := e3.keeps Kt1.out; have HR3 := Lib.hid hr3; have HE3 := Lib.hid e3; clear hr3 e3)
      | (go_at_call 92; refine (HC0.out _ ?y1 _ ?y2).mono ?_; (case y1 => first | exact HE3.out | exact HE3.out.drew); (case y2 => exact HR3.out); rintro e w4 ⟨v, rfl, hr3, e3⟩; have hp0 := e3.keeps Kp0.out; have hp1 := e3.keeps Kp1.out; have hp2 := e3.keeps Kp2.out; have hq1 := e3.keeps Kq1.out; have hq2 := e3.keeps Kq2.out; have hq3 := e3.keeps Kq3.out; have ht0 := e3.keeps Kt0.out; have ht1 := e3.keeps Kt1.out))
  all_goals
    go_wp2_with fail
    go_ret2
    rw [HQ.out]
    exact ⟨v, rfl, hr3, EX.out.trans e3⟩
set_option maxHeartbeats 4000000 in
set_option maxRecDepth 100000 in
theorem co5 (S : Nat → Prop) (es : List X) (ts : List Tt) (done : List (List Int)) (nd : Nd) (h : Hd) (ve vt vc : Value) (w : World) (hl : RdG w ve es) (ht : RdT S w vt ts) (hd : RdS RdI S w vc done) (hn : RdNd w ⟨h, nd⟩) (hU : Up S w)
    (hs1 : nd.ex.length ≤ 1000000) (hs2 : nd.ag.length ≤ 1000000) (hs3 : ∀ c ∈ done, c.length ≤ 1000) (hk : nd.k = 5) (ha : isIx nd.a done.length = true) (hb : isIx nd.b done.length = true) :
    Calls Tryz.prog 64 #[ckV ve vt vc, ndV ⟨h, nd⟩] w (CoP S w (colO es ts nd done)) := by
  obtain ⟨ad, cap, rfl, _, _⟩ := hl.shape
  obtain ⟨td, tcap, rfl, _, _⟩ := ht.shape
  obtain ⟨cd, ccap, rfl, _, cc2⟩ := hd.shape
  have HU := Lib.hid hU
  obtain ⟨hnx, hny⟩ := hn
  obtain ⟨xa, xn, xc, xb, xm, xd⟩ := h
  obtain ⟨nk, na, nb, np, ns, ex, ag⟩ := nd
  simp only [Hd.x, Hd.y] at hk ha hnx hny hs1 hs2 hb ⊢
  subst hk
  obtain ⟨j, rfl⟩ := nat_of ((isIx_iff _ _).1 ha).1
  have hj : j < done.length := by have := ((isIx_iff _ _).1 ha).2; omega
  obtain ⟨g, o, a, c, rfl, d0, hrel⟩ := hd.at rdI_ok j hj
  have hat : atC done (j : Int) = done[j] := by simp [atC, List.getD, hj]
  obtain ⟨i, rfl⟩ := nat_of ((isIx_iff _ _).1 hb).1
  have hi : i < done.length := by have := ((isIx_iff _ _).1 hb).2; omega
  obtain ⟨g', o', a', c', e', d1, hrel'⟩ := hd.at rdI_ok i hi
  simp only [Option.some.injEq, Addr.mk.injEq, and_true] at e'
  obtain ⟨rfl, rfl⟩ := e'
  have hat' : atC done (i : Int) = done[i] := by simp [atC, List.getD, hi]
  have hsb := hs3 done[i] (List.getElem_mem _)
  have hsa := hs3 done[j] (List.getElem_mem _)
  have HQ := Lib.hid (show colO es ts ⟨5, j, i, np, ns, ex, ag⟩ done = prdC es np (done[j] ++ done[i]) by simp [colO, hat, hat'])
  clear hat'
  generalize done[i] = B at *
  clear hat
  generalize done[j] = A at *
  obtain ⟨D, hD⟩ : ∃ D, D = A ++ B := ⟨_, rfl⟩
  rw [← hD] at HQ
  have hdl : D.length ≤ 100000000 := by rw [hD, List.length_append]; omega
  have HCA := Lib.hid (fun (X : World) (b : Nat) (hE : Ext w X) (g0 : X.cell? ⟨b, 0, none⟩ = some (.slice a A.length c)) (g1 : X.cell? ⟨b, 1, none⟩ = some (.slice a' B.length c')) => concat_I A B _ _ b X (hrel.1.ext hE) (hrel'.1.ext hE) g0 g1 (by omega))
  rw [← hD] at HCA
  have HC := Lib.hid (fun w' (hE : Ext w w') vD (hr : RdI S w' vD D) => pred_prg S es np D td (some ⟨g, o, none⟩) ts.length done.length tcap ccap _ vD w' (hl.ext hE) hr)
  clear hD
  obtain ⟨n, hn⟩ : ∃ n, n = es.length := ⟨_, rfl⟩
  obtain ⟨m, hm⟩ : ∃ m, m = ts.length := ⟨_, rfl⟩
  obtain ⟨r, hr⟩ : ∃ r, r = done.length := ⟨_, rfl⟩
  have HJ := Lib.hid hj
  have HI := Lib.hid hi
  have HR := Lib.hid hr
  try rw [← hn, ← hm, ← hr] at HC
  rw [← hn, ← hm, ← hr]
  rw [← hr] at hj hi
  unfold maxLen at cc2
  clear hl ht hd hnx hny hs1 hs2 hs3 ha hb hn hm hr
  obtain ⟨w0, hw0⟩ : ∃ w0, w0 = (w.alloc (.cells #[.slice ad n cap, .slice td m tcap, .slice (some ⟨g, o, none⟩) r ccap] 108)).alloc (.cells #[.int .i64 5, .int .i64 (j : Int), .int .i64 (i : Int), .int .i64 np, sv ns, .slice xa xn xc, .slice xb xm xd] 45) := ⟨_, rfl⟩
  have EX := Lib.hid (show Ext w w0 by rw [hw0]; exact ((Ext.refl _).alloc _ _).alloc _ _)
  have HC0 := Lib.hid (fun w' (hE : Ext w0 w') vD (hr : RdI S w' vD D) => (HC.out w' (EX.out.trans hE) vD hr).mono fun _ _ h => CoP.trans hE h)
  have HCC := Lib.hid (fun (X : World) (hE : Ext w0 X) (b : Nat) g0 g1 => (HCA.out X b (EX.out.trans hE) g0 g1).mono (R' := fun e w' => ∃ v, e = .returned v ∧ RdI S w' v D ∧ Ext w0 w') (by rintro _ _ ⟨v, rfl, hO⟩; exact ⟨v, rfl, ⟨hO.rd, hO.inn (HU.out.ext (EX.out.trans hE))⟩, hE.trans hO.2⟩))
  clear HCA
  have p0 : w0.cell? ⟨w.heap.size, 0, none⟩ = some (.slice ad n cap) := by rw [hw0]; exact ((Ext.refl _).alloc _ _).keeps (al_c w _ _ 0 _ rfl)
  have p1 : w0.cell? ⟨w.heap.size, 1, none⟩ = some (.slice td m tcap) := by rw [hw0]; exact ((Ext.refl _).alloc _ _).keeps (al_c w _ _ 1 _ rfl)
  have p2 : w0.cell? ⟨w.heap.size, 2, none⟩ = some (.slice (some ⟨g, o, none⟩) r ccap) := by rw [hw0]; exact ((Ext.refl _).alloc _ _).keeps (al_c w _ _ 2 _ rfl)
  have q1 : w0.cell? ⟨w.heap.size + 1, 1, none⟩ = some (.int .i64 (j : Int)) := by rw [hw0]; have := al_c (w.alloc (.cells #[.slice ad n cap, .slice td m tcap, .slice (some ⟨g, o, none⟩) r ccap] 108)) #[.int .i64 5, .int .i64 (j : Int), .int .i64 (i : Int), .int .i64 np, sv ns, .slice xa xn xc, .slice xb xm xd] 45 1 _ rfl; rw [alsz] at this; exact this
  have q2 : w0.cell? ⟨w.heap.size + 1, 2, none⟩ = some (.int .i64 (i : Int)) := by rw [hw0]; have := al_c (w.alloc (.cells #[.slice ad n cap, .slice td m tcap, .slice (some ⟨g, o, none⟩) r ccap] 108)) #[.int .i64 5, .int .i64 (j : Int), .int .i64 (i : Int), .int .i64 np, sv ns, .slice xa xn xc, .slice xb xm xd] 45 2 _ rfl; rw [alsz] at this; exact this
  have q3 : w0.cell? ⟨w.heap.size + 1, 3, none⟩ = some (.int .i64 np) := by rw [hw0]; have := al_c (w.alloc (.cells #[.slice ad n cap, .slice td m tcap, .slice (some ⟨g, o, none⟩) r ccap] 108)) #[.int .i64 5, .int .i64 (j : Int), .int .i64 (i : Int), .int .i64 np, sv ns, .slice xa xn xc, .slice xb xm xd] 45 3 _ rfl; rw [alsz] at this; exact this
  have t0 := EX.out.keeps d0
  have t1 := EX.out.keeps d1
  have HW0 := Lib.hid hw0
  clear d0 d1 hw0
  obtain ⟨al, hal⟩ : ∃ al, al = A.length := ⟨_, rfl⟩
  obtain ⟨bl, hbl⟩ : ∃ bl, bl = B.length := ⟨_, rfl⟩
  rw [← hal] at t0 HCC
  rw [← hbl] at t1 HCC
  clear HC hal hbl
  have Kp0 := Lib.hid p0
  have Kp1 := Lib.hid p1
  have Kp2 := Lib.hid p2
  have Kq1 := Lib.hid q1
  have Kq2 := Lib.hid q2
  have Kq3 := Lib.hid q3
  have Kt0 := Lib.hid t0
  have Kt1 := Lib.hid t1
  go_enter Tryz.func64, Tryz.ntmps64
  go_wp2_with fail
  rw [← HW0.out]
  clear HW0
  have HAL := Lib.hid (fun (X : World) (hE : Ext w0 X) => (show Ext w0 (X.alloc (.cells #[.slice a al c, .slice a' bl c'] 41)) from hE.alloc _ _))
  go_region_held3 (fun w' => w'.cell? ⟨w.heap.size, 0, none⟩ = some (.slice ad n cap) ∧ w'.cell? ⟨w.heap.size, 1, none⟩ = some (.slice td m tcap) ∧ w'.cell? ⟨w.heap.size, 2, none⟩ = some (.slice (some ⟨g, o, none⟩) r ccap) ∧ w'.cell? ⟨w.heap.size + 1, 1, none⟩ = some (.int .i64 (j : Int)) ∧ w'.cell? ⟨w.heap.size + 1, 2, none⟩ = some (.int .i64 (i : Int)) ∧ w'.cell? ⟨w.heap.size + 1, 3, none⟩ = some (.int .i64 np) ∧ w'.cell? ⟨g, o + j, none⟩ = some (.slice a al c) ∧ w'.cell? ⟨g, o + i, none⟩ = some (Value.slice a' bl c')) (first | exact ⟨Kp0.out, Kp1.out, Kp2.out, Kq1.out, Kq2.out, Kq3.out, Kt0.out, Kt1.out⟩ | exact ⟨fp0, fp1, fp2, fq1, fq2, fq3, ft0, ft1⟩ | exact ⟨hp0, hp1, hp2, hq1, hq2, hq3, ht0, ht1⟩ | go_keep)
    (first
      | (go_at_call 41; refine (HCC.out _ ?x1 _ ?x2 ?x3).mono ?_; (case x1 => first | exact (Ext.refl _).alloc _ _ | exact ((Ext.refl _).drew).alloc _ _); (case x2 => exact al0 _ _ _ _); (case x3 => exact al1 _ _ _ _); rintro e w3 ⟨v3, rfl, hr3, e3⟩; obtain ⟨a3, c3, rfl, _, _⟩ := hr3.1.shape; have fp0 := e3.keeps Kp0.out; have fp1 := e3.keeps Kp1.out; have fp2 := e3.keeps Kp2.out; have fq1 := e3.keeps Kq1.out; have fq2 := e3.keeps Kq2.out; have fq3 := e3.keeps Kq3.out; have ft0 := e3.keeps Kt0.out; have ft1 := e3.keeps Kt1.out; have HR3 := Lib.hid hr3; have HE3 := Lib.hid e3; clear hr3 e3)
      | (go_at_call 92; refine (HC0.out _ ?y1 _ ?y2).mono ?_; (case y1 => first | exact HE3.out | exact HE3.out.drew); (case y2 => exact HR3.out); rintro e w4 ⟨v, rfl, hr3, e3⟩; have hp0 := e3.keeps Kp0.out; have hp1 := e3.keeps Kp1.out; have hp2 := e3.keeps Kp2.out; have hq1 := e3.keeps Kq1.out; have hq2 := e3.keeps Kq2.out; have hq3 := e3.keeps Kq3.out; have ht0 := e3.keeps Kt0.out; have ht1 := e3.keeps Kt1.out))
  all_goals
    go_wp2_with fail
    go_ret2
    rw [HQ.out]
    exact ⟨v, rfl, hr3, EX.out.trans e3⟩
set_option maxHeartbeats 4000000 in
set_option maxRecDepth 100000 in
theorem co10 (S : Nat → Prop) (es : List X) (ts : List Tt) (done : List (List Int)) (nd : Nd) (h : Hd) (ve vt vc : Value) (w : World) (hl : RdG w ve es) (ht : RdT S w vt ts) (hd : RdS RdI S w vc done) (hn : RdNd w ⟨h, nd⟩) (hU : Up S w)
    (hs1 : nd.ex.length ≤ 1000000) (hs2 : nd.ag.length ≤ 1000000) (hs3 : ∀ c ∈ done, c.length ≤ 1000) (hk : nd.k = 10) (ha : isIx nd.a done.length = true) :
    Calls Tryz.prog 64 #[ckV ve vt vc, ndV ⟨h, nd⟩] w (CoP S w (colO es ts nd done)) := by
  obtain ⟨ad, cap, rfl, _, _⟩ := hl.shape
  obtain ⟨td, tcap, rfl, _, _⟩ := ht.shape
  obtain ⟨cd, ccap, rfl, _, cc2⟩ := hd.shape
  have HU := Lib.hid hU
  obtain ⟨hnx, hny⟩ := hn
  obtain ⟨xa, xn, xc, xb, xm, xd⟩ := h
  obtain ⟨nk, na, nb, np, ns, ex, ag⟩ := nd
  simp only [Hd.x, Hd.y] at hk ha hnx hny hs1 hs2 ⊢
  subst hk
  obtain ⟨j, rfl⟩ := nat_of ((isIx_iff _ _).1 ha).1
  have hj : j < done.length := by have := ((isIx_iff _ _).1 ha).2; omega
  obtain ⟨g, o, a, c, rfl, d0, hrel⟩ := hd.at rdI_ok j hj
  have hat : atC done (j : Int) = done[j] := by simp [atC, List.getD, hj]
  have hsa := hs3 done[j] (List.getElem_mem _)
  have HQ := Lib.hid (show colO es ts ⟨10, j, nb, np, ns, ex, ag⟩ done = grpC es ex ag done[j] by simp [colO, hat])
  clear hat
  generalize done[j] = A at *
  obtain ⟨rfl, _, _⟩ := hnx.len
  obtain ⟨rfl, _, _⟩ := hny.len
  have HC := Lib.hid (fun w' (hE : Ext w w') => grp_prg S es ⟨10, j, nb, np, ns, ex, ag⟩ ⟨xa, ex.length, xc, xb, ag.length, xd⟩ A td (some ⟨g, o, none⟩) ts.length done.length tcap ccap _ _ w' (hl.ext hE) ⟨hnx.ext hE, hny.ext hE⟩ (hrel.1.ext hE) (hU.ext hE) hs1 hs2)
  obtain ⟨xn, hxn⟩ : ∃ xn, xn = ex.length := ⟨_, rfl⟩
  obtain ⟨xm, hxm⟩ : ∃ xm, xm = ag.length := ⟨_, rfl⟩
  rw [← hxn, ← hxm] at HC ⊢
  clear hxn hxm
  obtain ⟨n, hn⟩ : ∃ n, n = es.length := ⟨_, rfl⟩
  obtain ⟨m, hm⟩ : ∃ m, m = ts.length := ⟨_, rfl⟩
  obtain ⟨r, hr⟩ : ∃ r, r = done.length := ⟨_, rfl⟩
  have HJ := Lib.hid hj
  have HR := Lib.hid hr
  try rw [← hn, ← hm, ← hr] at HC
  rw [← hn, ← hm, ← hr]
  rw [← hr] at hj
  unfold maxLen at cc2
  clear hl ht hd hnx hny hs1 hs2 hs3 ha hn hm hr
  obtain ⟨w0, hw0⟩ : ∃ w0, w0 = (w.alloc (.cells #[.slice ad n cap, .slice td m tcap, .slice (some ⟨g, o, none⟩) r ccap] 108)).alloc (.cells #[.int .i64 10, .int .i64 (j : Int), .int .i64 nb, .int .i64 np, sv ns, .slice xa xn xc, .slice xb xm xd] 45) := ⟨_, rfl⟩
  have EX := Lib.hid (show Ext w w0 by rw [hw0]; exact ((Ext.refl _).alloc _ _).alloc _ _)
  have HC0 := Lib.hid (fun w' (hE : Ext w0 w') => (HC.out w' (EX.out.trans hE)).mono fun _ _ h => CoP.trans hE h)
  have p0 : w0.cell? ⟨w.heap.size, 0, none⟩ = some (.slice ad n cap) := by rw [hw0]; exact ((Ext.refl _).alloc _ _).keeps (al_c w _ _ 0 _ rfl)
  have p1 : w0.cell? ⟨w.heap.size, 1, none⟩ = some (.slice td m tcap) := by rw [hw0]; exact ((Ext.refl _).alloc _ _).keeps (al_c w _ _ 1 _ rfl)
  have p2 : w0.cell? ⟨w.heap.size, 2, none⟩ = some (.slice (some ⟨g, o, none⟩) r ccap) := by rw [hw0]; exact ((Ext.refl _).alloc _ _).keeps (al_c w _ _ 2 _ rfl)
  have q0 : w0.cell? ⟨w.heap.size + 1, 0, none⟩ = some (.int .i64 10) := by rw [hw0]; have := al_c (w.alloc (.cells #[.slice ad n cap, .slice td m tcap, .slice (some ⟨g, o, none⟩) r ccap] 108)) #[.int .i64 10, .int .i64 (j : Int), .int .i64 nb, .int .i64 np, sv ns, .slice xa xn xc, .slice xb xm xd] 45 0 _ rfl; rw [alsz] at this; exact this
  have q1 : w0.cell? ⟨w.heap.size + 1, 1, none⟩ = some (.int .i64 (j : Int)) := by rw [hw0]; have := al_c (w.alloc (.cells #[.slice ad n cap, .slice td m tcap, .slice (some ⟨g, o, none⟩) r ccap] 108)) #[.int .i64 10, .int .i64 (j : Int), .int .i64 nb, .int .i64 np, sv ns, .slice xa xn xc, .slice xb xm xd] 45 1 _ rfl; rw [alsz] at this; exact this
  have q2 : w0.cell? ⟨w.heap.size + 1, 2, none⟩ = some (.int .i64 nb) := by rw [hw0]; have := al_c (w.alloc (.cells #[.slice ad n cap, .slice td m tcap, .slice (some ⟨g, o, none⟩) r ccap] 108)) #[.int .i64 10, .int .i64 (j : Int), .int .i64 nb, .int .i64 np, sv ns, .slice xa xn xc, .slice xb xm xd] 45 2 _ rfl; rw [alsz] at this; exact this
  have q3 : w0.cell? ⟨w.heap.size + 1, 3, none⟩ = some (.int .i64 np) := by rw [hw0]; have := al_c (w.alloc (.cells #[.slice ad n cap, .slice td m tcap, .slice (some ⟨g, o, none⟩) r ccap] 108)) #[.int .i64 10, .int .i64 (j : Int), .int .i64 nb, .int .i64 np, sv ns, .slice xa xn xc, .slice xb xm xd] 45 3 _ rfl; rw [alsz] at this; exact this
  have q4 : w0.cell? ⟨w.heap.size + 1, 4, none⟩ = some (sv ns) := by rw [hw0]; have := al_c (w.alloc (.cells #[.slice ad n cap, .slice td m tcap, .slice (some ⟨g, o, none⟩) r ccap] 108)) #[.int .i64 10, .int .i64 (j : Int), .int .i64 nb, .int .i64 np, sv ns, .slice xa xn xc, .slice xb xm xd] 45 4 _ rfl; rw [alsz] at this; exact this
  have q5 : w0.cell? ⟨w.heap.size + 1, 5, none⟩ = some (.slice xa xn xc) := by rw [hw0]; have := al_c (w.alloc (.cells #[.slice ad n cap, .slice td m tcap, .slice (some ⟨g, o, none⟩) r ccap] 108)) #[.int .i64 10, .int .i64 (j : Int), .int .i64 nb, .int .i64 np, sv ns, .slice xa xn xc, .slice xb xm xd] 45 5 _ rfl; rw [alsz] at this; exact this
  have q6 : w0.cell? ⟨w.heap.size + 1, 6, none⟩ = some (.slice xb xm xd) := by rw [hw0]; have := al_c (w.alloc (.cells #[.slice ad n cap, .slice td m tcap, .slice (some ⟨g, o, none⟩) r ccap] 108)) #[.int .i64 10, .int .i64 (j : Int), .int .i64 nb, .int .i64 np, sv ns, .slice xa xn xc, .slice xb xm xd] 45 6 _ rfl; rw [alsz] at this; exact this
  have t0 := EX.out.keeps d0
  have HW0 := Lib.hid hw0
  clear d0 hw0
  obtain ⟨al, hal⟩ : ∃ al, al = A.length := ⟨_, rfl⟩
  rw [← hal] at t0 HC HC0
  clear HC hal
  have Kp0 := Lib.hid p0
  have Kp1 := Lib.hid p1
  have Kp2 := Lib.hid p2
  have Kq0 := Lib.hid q0
  have Kq1 := Lib.hid q1
  have Kq2 := Lib.hid q2
  have Kq3 := Lib.hid q3
  have Kq4 := Lib.hid q4
  have Kq5 := Lib.hid q5
  have Kq6 := Lib.hid q6
  have Kt0 := Lib.hid t0
  go_enter Tryz.func64, Tryz.ntmps64
  go_wp2_with fail
  rw [← HW0.out]
  clear HW0
  go_region_held3 (fun w' => w'.cell? ⟨w.heap.size, 0, none⟩ = some (.slice ad n cap) ∧ w'.cell? ⟨w.heap.size, 1, none⟩ = some (.slice td m tcap) ∧ w'.cell? ⟨w.heap.size, 2, none⟩ = some (.slice (some ⟨g, o, none⟩) r ccap) ∧ w'.cell? ⟨w.heap.size + 1, 0, none⟩ = some (.int .i64 10) ∧ w'.cell? ⟨w.heap.size + 1, 1, none⟩ = some (.int .i64 (j : Int)) ∧ w'.cell? ⟨w.heap.size + 1, 2, none⟩ = some (.int .i64 nb) ∧ w'.cell? ⟨w.heap.size + 1, 3, none⟩ = some (.int .i64 np) ∧ w'.cell? ⟨w.heap.size + 1, 4, none⟩ = some (sv ns) ∧ w'.cell? ⟨w.heap.size + 1, 5, none⟩ = some (.slice xa xn xc) ∧ w'.cell? ⟨w.heap.size + 1, 6, none⟩ = some (.slice xb xm xd) ∧ w'.cell? ⟨g, o + j, none⟩ = some (.slice a al c)) (first | exact ⟨Kp0.out, Kp1.out, Kp2.out, Kq0.out, Kq1.out, Kq2.out, Kq3.out, Kq4.out, Kq5.out, Kq6.out, Kt0.out⟩ | exact ⟨fp0, fp1, fp2, fq0, fq1, fq2, fq3, fq4, fq5, fq6, ft0⟩ | go_keep)
    (first | (go_at_call 95; refine (HC0.out _ ?_).mono ?_; (first | exact Ext.refl _ | exact (Ext.refl _).drew); rintro e w3 ⟨v, rfl, hr3, e3⟩; have fp0 := e3.keeps Kp0.out; have fp1 := e3.keeps Kp1.out; have fp2 := e3.keeps Kp2.out; have fq0 := e3.keeps Kq0.out; have fq1 := e3.keeps Kq1.out; have fq2 := e3.keeps Kq2.out; have fq3 := e3.keeps Kq3.out; have fq4 := e3.keeps Kq4.out; have fq5 := e3.keeps Kq5.out; have fq6 := e3.keeps Kq6.out; have ft0 := e3.keeps Kt0.out))
  all_goals
    go_wp2_with fail
    go_ret2
    rw [HQ.out]
    exact ⟨v, rfl, hr3, EX.out.trans e3⟩
end Go.Proofs.YtbplapkcleipiaaGreatDoor
