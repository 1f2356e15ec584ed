/- Evaluating a query, of the program: one node. -/
import Derived.Test.YtbplapkcleipiaaGreatDoorZz18
import Derived.Test.YtbplapkcleipiaaGreatDoorZz36
import Derived.Test.YtbplapkcleipiaaGreatDoorZz37
import Derived.Test.YtbplapkcleipiaaGreatDoorZz38
import Derived.Test.YtbplapkcleipiaaGreatDoorZz39
namespace Go.Proofs.YtbplapkcleipiaaGreatDoor
open Go.ChangeShapes Go.WideShapes Go.ChangeAt Go.RowKit

theorem RoF.trans {S : Nat → Prop} {w0 w w' : World} {l : List R} {e : Ending} (h : Ext w0 w) (k : RoF S w l e w') : RoF S w0 l e w' := by
  obtain ⟨v, m, h1, h2, h3, h4⟩ := k
  exact ⟨v, m, h1, h2, h.trans h3, h4⟩
theorem RoP.f {S : Nat → Prop} {w w' : World} {l : List R} {e : Ending} (k : RoP S w l e w') : RoF S w l e w' := by
  obtain ⟨v, h1, h2, h3⟩ := k
  exact ⟨v, l, h1, h2, h3, .inl rfl⟩
theorem cat_prg (S : Nat → Prop) (a b : List R) (va vb : Value) (g : Nat) (w : World) (ha : RdR S w va a) (hb : RdR S w vb b) (hU : Up S w) (g0 : w.cell? ⟨g, 0, none⟩ = some va) (g1 : w.cell? ⟨g, 1, none⟩ = some vb) (hl : a.length + b.length ≤ 1000000) :
    Calls Tryz.prog 69 #[.slice (some ⟨g, 0, none⟩) 2 2] w (RoF S w (a ++ b)) := by
  obtain ⟨ps, h1, h2, h3, rfl⟩ := ha
  obtain ⟨qs, q1, q2, q3, rfl⟩ := hb
  rw [rows_len, rows_len] at hl
  refine (concat_P ps qs va vb g w h1 q1 g0 g1 (by omega)).mono ?_
  rintro e w' ⟨v, rfl, hO⟩
  refine ⟨v, rows ps ++ rows qs, rfl, ⟨ps ++ qs, hO.rd, hO.inn hU, fun p hp => ?_, rows_app _ _⟩, hO.2, .inl rfl⟩
  rcases List.mem_append.1 hp with hp | hp
  · exact ⟨(h3 p hp).1.ext hO.2, (h3 p hp).2⟩
  · exact ⟨(q3 p hp).1.ext hO.2, (q3 p hp).2⟩
set_option maxHeartbeats 4000000 in
set_option maxRecDepth 100000 in
theorem en1 (S : Nat → Prop) (es : List X) (db : List Tb) (cols : List (List Int)) (done : List (List R)) (nd : Nd) (h : Hd) (ve vd vc vr : Value) (w : World) (hl : RdG w ve es) (hdb : RdB9 S w vd db) (hc : RdS RdI S w vc cols) (hd : RdS RdR S w vr done) (hn : RdNd w ⟨h, nd⟩) (hU : Up S w) (hk : nd.k = 1)
    (_hs : True) :
    Calls Tryz.prog 48 #[eaV ve vd vc vr, ndV ⟨h, nd⟩] w (RoF S w (evN clsF es db cols nd done)) := by
  obtain ⟨ad, cap, rfl, _, _⟩ := hl.shape
  obtain ⟨dd, dcap, rfl, _, _⟩ := hdb.shape
  obtain ⟨cd, ccap, rfl, _, _⟩ := hc.shape
  obtain ⟨rd, rcap, rfl, _, cc2⟩ := hd.shape
  have HU := Lib.hid hU
  obtain ⟨hnx, hny⟩ := hn
  obtain ⟨xa, xn, xc, xb, xm, xd⟩ := h
  obtain ⟨nk, na, nb, np, ns, ex, ag⟩ := nd
  simp only [Hd.x, Hd.y] at *
  subst hk
  have HQ := Lib.hid (show evN clsF es db cols ⟨1, na, nb, np, ns, ex, ag⟩ done = scnL db ns by simp [evN])
  have HC := Lib.hid (fun w' (hE : Ext w w') => (scan_prg S db ns ad cd rd es.length cols.length done.length cap ccap rcap (.slice dd db.length dcap) w' (hdb.ext hE)).mono (R' := RoF S w' (scnL db ns)) fun _ _ h => RoP.f h)
  obtain ⟨n, hn⟩ : ∃ n, n = es.length := ⟨_, rfl⟩
  obtain ⟨m, hm⟩ : ∃ m, m = db.length := ⟨_, rfl⟩
  obtain ⟨q, hq⟩ : ∃ q, q = cols.length := ⟨_, rfl⟩
  obtain ⟨r, hr⟩ : ∃ r, r = done.length := ⟨_, rfl⟩
  try rw [← hn] at HC
  try rw [← hm] at HC
  try rw [← hq] at HC
  try rw [← hr] at HC
  rw [← hn, ← hm, ← hq, ← hr]
  unfold maxLen at cc2
  obtain ⟨w0, hw0⟩ : ∃ w0, w0 = (w.alloc (.cells #[.slice ad n cap, .slice dd m dcap, .slice cd q ccap, .slice rd r rcap] 111)).alloc (.cells #[.int .i64 1, .int .i64 na, .int .i64 nb, .int .i64 np, sv ns, .slice xa xn xc, .slice xb xm xd] 45) := ⟨_, rfl⟩
  have EX := Lib.hid (show Ext w w0 by rw [hw0]; exact ((Ext.refl _).alloc _ _).alloc _ _)
  have HBX := Lib.hid (show Bxn w.heap.size [.slice ad n cap, .slice dd m dcap, .slice cd q ccap, .slice rd r rcap] w0 by rw [hw0]; exact (Bxn.new w _ _).ext ((Ext.refl _).alloc _ _))
  have HBY := Lib.hid (show Bxn (w.heap.size + 1) [.int .i64 1, .int .i64 na, .int .i64 nb, .int .i64 np, sv ns, .slice xa xn xc, .slice xb xm xd] w0 by rw [hw0, ← alsz w]; exact Bxn.new _ _ _)
  have p0 := (HBX.out.2 0 _ rfl).1
  have p1 := (HBX.out.2 1 _ rfl).1
  have p2 := (HBX.out.2 2 _ rfl).1
  have p3 := (HBX.out.2 3 _ rfl).1
  have q4 := (HBY.out.2 4 _ rfl).1
  have sx := HBX.out.1
  have sy := HBY.out.1
  have HW0 := Lib.hid hw0
  clear hl hdb hc hd hnx hny hU hn hm hq hr hw0
  have HC0 := Lib.hid (fun w' (hE : Ext w0 w') => (HC.out w' (EX.out.trans hE)).mono fun _ _ h => RoF.trans hE h)
  go_enter Tryz.func48, Tryz.ntmps48
  go_wp2_with fail
  rw [← HW0.out]
  clear HW0
  refine (HC0.out _ (Ext.refl _)).mono ?_; rintro e w3 ⟨v, m3, rfl, hr3, e3, hm3⟩
  go_wp2_with fail
  go_ret
  rw [HQ.out]
  exact ⟨v, m3, rfl, hr3, EX.out.trans e3, hm3⟩
set_option maxHeartbeats 4000000 in
set_option maxRecDepth 100000 in
theorem en2 (S : Nat → Prop) (es : List X) (db : List Tb) (cols : List (List Int)) (done : List (List R)) (nd : Nd) (h : Hd) (ve vd vc vr : Value) (w : World) (hl : RdG w ve es) (hdb : RdB9 S w vd db) (hc : RdS RdI S w vc cols) (hd : RdS RdR S w vr done) (hn : RdNd w ⟨h, nd⟩) (hU : Up S w) (hk : nd.k = 2)
    (hs : es.length ≤ 1000) (hx : OkX es) (ha : isIx nd.a done.length = true) (ho : OkRs (atL done nd.a)) (hll : (atL done nd.a).length ≤ 1000000) :
    Calls Tryz.prog 48 #[eaV ve vd vc vr, ndV ⟨h, nd⟩] w (RoF S w (evN clsF es db cols nd done)) := by
  obtain ⟨ad, cap, rfl, _, _⟩ := hl.shape
  obtain ⟨dd, dcap, rfl, _, _⟩ := hdb.shape
  obtain ⟨cd, ccap, rfl, _, _⟩ := hc.shape
  obtain ⟨rd, rcap, rfl, _, cc2⟩ := hd.shape
  have HU := Lib.hid hU
  obtain ⟨hnx, hny⟩ := hn
  obtain ⟨xa, xn, xc, xb, xm, xd⟩ := h
  obtain ⟨nk, na, nb, np, ns, ex, ag⟩ := nd
  simp only [Hd.x, Hd.y] at *
  subst hk
  obtain ⟨j, rfl⟩ := nat_of ((isIx_iff _ _).1 ha).1
  have hj : j < done.length := by have := ((isIx_iff _ _).1 ha).2; omega
  obtain ⟨g, o, a, c, rfl, d0, hrel⟩ := hd.at rdR_ok j hj
  have hat : atL done (j : Int) = done[j] := by simp [atL, List.getD, hj]
  have HQ := Lib.hid (show evN clsF es db cols ⟨2, (j : Int), nb, np, ns, ex, ag⟩ done = selL es np done[j] by simp [evN, hat])
  rw [hat] at ho
  rw [hat] at hll
  have HC := Lib.hid (fun w' (hE : Ext w w') => (sel_prg S es np done[j] dd cd (some ⟨g, o, none⟩) db.length cols.length done.length dcap ccap rcap (.slice ad es.length cap) (.slice a done[j].length c) w' (hl.ext hE) (rdR_ok.ext hrel hE) (hU.ext hE) hs hx ho hll).mono (R' := RoF S w' (selL es np done[j])) fun _ _ h => RoP.f h)
  obtain ⟨n, hn⟩ : ∃ n, n = es.length := ⟨_, rfl⟩
  obtain ⟨m, hm⟩ : ∃ m, m = db.length := ⟨_, rfl⟩
  obtain ⟨q, hq⟩ : ∃ q, q = cols.length := ⟨_, rfl⟩
  obtain ⟨r, hr⟩ : ∃ r, r = done.length := ⟨_, rfl⟩
  try rw [← hn] at HC
  try rw [← hm] at HC
  try rw [← hq] at HC
  try rw [← hr] at HC
  rw [← hn, ← hm, ← hq, ← hr]
  rw [← hr] at hj
  unfold maxLen at cc2
  obtain ⟨w0, hw0⟩ : ∃ w0, w0 = (w.alloc (.cells #[.slice ad n cap, .slice dd m dcap, .slice cd q ccap, .slice (some ⟨g, o, none⟩) r rcap] 111)).alloc (.cells #[.int .i64 2, .int .i64 (j : Int), .int .i64 nb, .int .i64 np, sv ns, .slice xa xn xc, .slice xb xm xd] 45) := ⟨_, rfl⟩
  have EX := Lib.hid (show Ext w w0 by rw [hw0]; exact ((Ext.refl _).alloc _ _).alloc _ _)
  have HBX := Lib.hid (show Bxn w.heap.size [.slice ad n cap, .slice dd m dcap, .slice cd q ccap, .slice (some ⟨g, o, none⟩) r rcap] w0 by rw [hw0]; exact (Bxn.new w _ _).ext ((Ext.refl _).alloc _ _))
  have HBY := Lib.hid (show Bxn (w.heap.size + 1) [.int .i64 2, .int .i64 (j : Int), .int .i64 nb, .int .i64 np, sv ns, .slice xa xn xc, .slice xb xm xd] w0 by rw [hw0, ← alsz w]; exact Bxn.new _ _ _)
  have p0 := (HBX.out.2 0 _ rfl).1
  have p1 := (HBX.out.2 1 _ rfl).1
  have p2 := (HBX.out.2 2 _ rfl).1
  have p3 := (HBX.out.2 3 _ rfl).1
  have q3 := (HBY.out.2 3 _ rfl).1
  have q1 := (HBY.out.2 1 _ rfl).1
  have sx := HBX.out.1
  have sy := HBY.out.1
  have t0 := EX.out.keeps d0
  have HW0 := Lib.hid hw0
  obtain ⟨al, hal⟩ : ∃ al, al = done[j].length := ⟨_, rfl⟩
  rw [← hal] at t0
  try rw [← hal] at HC
  clear hl hdb hc hd hnx hny hU hn hm hq hr hw0 ha hat hrel d0 hal hs hx ho hll
  have Kp0 := Lib.hid p0
  have Kp1 := Lib.hid p1
  have Kp2 := Lib.hid p2
  have Kp3 := Lib.hid p3
  have Kq3 := Lib.hid q3
  have Kq1 := Lib.hid q1
  have Kt0 := Lib.hid t0
  have HC0 := Lib.hid (fun w' (hE : Ext w0 w') => (HC.out w' (EX.out.trans hE)).mono fun _ _ h => RoF.trans hE h)
  go_enter Tryz.func48, Tryz.ntmps48
  go_wp2_with fail
  rw [← HW0.out]
  clear HW0
  go_region_held3 (fun w' => w'.cell? ⟨w.heap.size, 0, none⟩ = some (.slice ad n cap) ∧ w'.cell? ⟨w.heap.size, 1, none⟩ = some (.slice dd m dcap) ∧ w'.cell? ⟨w.heap.size, 2, none⟩ = some (.slice cd q ccap) ∧ w'.cell? ⟨w.heap.size, 3, none⟩ = some (.slice (some ⟨g, o, none⟩) r rcap) ∧ w'.cell? ⟨w.heap.size + 1, 3, none⟩ = some (.int .i64 np) ∧ w'.cell? ⟨w.heap.size + 1, 1, none⟩ = some (.int .i64 (j : Int)) ∧ w'.cell? ⟨g, o + j, none⟩ = some (.slice a al c)) (first | exact ⟨Kp0.out, Kp1.out, Kp2.out, Kp3.out, Kq3.out, Kq1.out, Kt0.out⟩ | exact ⟨fp0, fp1, fp2, fp3, fq3, fq1, ft0⟩ | go_keep)
    (first | (go_at_call 66; refine (HC0.out _ ?_).mono ?_; (first | exact Ext.refl _ | exact (Ext.refl _).drew); rintro e w3 ⟨v, m3, rfl, hr3, e3, hm3⟩; have fp0 := e3.keeps Kp0.out; have fp1 := e3.keeps Kp1.out; have fp2 := e3.keeps Kp2.out; have fp3 := e3.keeps Kp3.out; have fq3 := e3.keeps Kq3.out; have fq1 := e3.keeps Kq1.out; have ft0 := e3.keeps Kt0.out))
  all_goals
    go_wp2_with fail
    go_ret
    rw [HQ.out]
    exact ⟨v, m3, rfl, hr3, EX.out.trans e3, hm3⟩
set_option maxHeartbeats 4000000 in
set_option maxRecDepth 100000 in
theorem en3 (S : Nat → Prop) (es : List X) (db : List Tb) (cols : List (List Int)) (done : List (List R)) (nd : Nd) (h : Hd) (ve vd vc vr : Value) (w : World) (hl : RdG w ve es) (hdb : RdB9 S w vd db) (hc : RdS RdI S w vc cols) (hd : RdS RdR S w vr done) (hn : RdNd w ⟨h, nd⟩) (hU : Up S w) (hk : nd.k = 3)
    (hs : es.length ≤ 1000) (hx : OkX es) (ha : isIx nd.a done.length = true) (ho : OkRs (atL done nd.a)) (hll : (atL done nd.a).length ≤ 1000000) (he : nd.ex.length ≤ 1000000) :
    Calls Tryz.prog 48 #[eaV ve vd vc vr, ndV ⟨h, nd⟩] w (RoF S w (evN clsF es db cols nd done)) := by
  obtain ⟨ad, cap, rfl, _, _⟩ := hl.shape
  obtain ⟨dd, dcap, rfl, _, _⟩ := hdb.shape
  obtain ⟨cd, ccap, rfl, _, _⟩ := hc.shape
  obtain ⟨rd, rcap, rfl, _, cc2⟩ := hd.shape
  have HU := Lib.hid hU
  obtain ⟨hnx, hny⟩ := hn
  obtain ⟨xa, xn, xc, xb, xm, xd⟩ := h
  obtain ⟨nk, na, nb, np, ns, ex, ag⟩ := nd
  simp only [Hd.x, Hd.y] at *
  subst hk
  obtain ⟨j, rfl⟩ := nat_of ((isIx_iff _ _).1 ha).1
  have hj : j < done.length := by have := ((isIx_iff _ _).1 ha).2; omega
  obtain ⟨g, o, a, c, rfl, d0, hrel⟩ := hd.at rdR_ok j hj
  have hat : atL done (j : Int) = done[j] := by simp [atL, List.getD, hj]
  have HQ := Lib.hid (show evN clsF es db cols ⟨3, (j : Int), nb, np, ns, ex, ag⟩ done = prjL es ex done[j] by simp [evN, hat])
  rw [hat] at ho
  rw [hat] at hll
  have HC := Lib.hid (fun w' (hE : Ext w w') => (prj_prg S es ex done[j] dd cd (some ⟨g, o, none⟩) db.length cols.length done.length dcap ccap rcap (.slice ad es.length cap) (.slice xa xn xc) (.slice a done[j].length c) w' (hl.ext hE) (hnx.ext hE) (rdR_ok.ext hrel hE) (hU.ext hE) hs hx ho hll he).mono (R' := RoF S w' (prjL es ex done[j])) fun _ _ h => RoP.f h)
  obtain ⟨n, hn⟩ : ∃ n, n = es.length := ⟨_, rfl⟩
  obtain ⟨m, hm⟩ : ∃ m, m = db.length := ⟨_, rfl⟩
  obtain ⟨q, hq⟩ : ∃ q, q = cols.length := ⟨_, rfl⟩
  obtain ⟨r, hr⟩ : ∃ r, r = done.length := ⟨_, rfl⟩
  try rw [← hn] at HC
  try rw [← hm] at HC
  try rw [← hq] at HC
  try rw [← hr] at HC
  rw [← hn, ← hm, ← hq, ← hr]
  rw [← hr] at hj
  unfold maxLen at cc2
  obtain ⟨w0, hw0⟩ : ∃ w0, w0 = (w.alloc (.cells #[.slice ad n cap, .slice dd m dcap, .slice cd q ccap, .slice (some ⟨g, o, none⟩) r rcap] 111)).alloc (.cells #[.int .i64 3, .int .i64 (j : Int), .int .i64 nb, .int .i64 np, sv ns, .slice xa xn xc, .slice xb xm xd] 45) := ⟨_, rfl⟩
  have EX := Lib.hid (show Ext w w0 by rw [hw0]; exact ((Ext.refl _).alloc _ _).alloc _ _)
  have HBX := Lib.hid (show Bxn w.heap.size [.slice ad n cap, .slice dd m dcap, .slice cd q ccap, .slice (some ⟨g, o, none⟩) r rcap] w0 by rw [hw0]; exact (Bxn.new w _ _).ext ((Ext.refl _).alloc _ _))
  have HBY := Lib.hid (show Bxn (w.heap.size + 1) [.int .i64 3, .int .i64 (j : Int), .int .i64 nb, .int .i64 np, sv ns, .slice xa xn xc, .slice xb xm xd] w0 by rw [hw0, ← alsz w]; exact Bxn.new _ _ _)
  have p0 := (HBX.out.2 0 _ rfl).1
  have p1 := (HBX.out.2 1 _ rfl).1
  have p2 := (HBX.out.2 2 _ rfl).1
  have p3 := (HBX.out.2 3 _ rfl).1
  have q5 := (HBY.out.2 5 _ rfl).1
  have q1 := (HBY.out.2 1 _ rfl).1
  have sx := HBX.out.1
  have sy := HBY.out.1
  have t0 := EX.out.keeps d0
  have HW0 := Lib.hid hw0
  obtain ⟨al, hal⟩ : ∃ al, al = done[j].length := ⟨_, rfl⟩
  rw [← hal] at t0
  try rw [← hal] at HC
  clear hl hdb hc hd hnx hny hU hn hm hq hr hw0 ha hat hrel d0 hal hs hx ho hll he
  have Kp0 := Lib.hid p0
  have Kp1 := Lib.hid p1
  have Kp2 := Lib.hid p2
  have Kp3 := Lib.hid p3
  have Kq5 := Lib.hid q5
  have Kq1 := Lib.hid q1
  have Kt0 := Lib.hid t0
  have HC0 := Lib.hid (fun w' (hE : Ext w0 w') => (HC.out w' (EX.out.trans hE)).mono fun _ _ h => RoF.trans hE h)
  go_enter Tryz.func48, Tryz.ntmps48
  go_wp2_with fail
  rw [← HW0.out]
  clear HW0
  go_region_held3 (fun w' => w'.cell? ⟨w.heap.size, 0, none⟩ = some (.slice ad n cap) ∧ w'.cell? ⟨w.heap.size, 1, none⟩ = some (.slice dd m dcap) ∧ w'.cell? ⟨w.heap.size, 2, none⟩ = some (.slice cd q ccap) ∧ w'.cell? ⟨w.heap.size, 3, none⟩ = some (.slice (some ⟨g, o, none⟩) r rcap) ∧ w'.cell? ⟨w.heap.size + 1, 5, none⟩ = some (.slice xa xn xc) ∧ w'.cell? ⟨w.heap.size + 1, 1, none⟩ = some (.int .i64 (j : Int)) ∧ w'.cell? ⟨g, o + j, none⟩ = some (.slice a al c)) (first | exact ⟨Kp0.out, Kp1.out, Kp2.out, Kp3.out, Kq5.out, Kq1.out, Kt0.out⟩ | exact ⟨fp0, fp1, fp2, fp3, fq5, fq1, ft0⟩ | go_keep)
    (first | (go_at_call 67; refine (HC0.out _ ?_).mono ?_; (first | exact Ext.refl _ | exact (Ext.refl _).drew); rintro e w3 ⟨v, m3, rfl, hr3, e3, hm3⟩; have fp0 := e3.keeps Kp0.out; have fp1 := e3.keeps Kp1.out; have fp2 := e3.keeps Kp2.out; have fp3 := e3.keeps Kp3.out; have fq5 := e3.keeps Kq5.out; have fq1 := e3.keeps Kq1.out; have ft0 := e3.keeps Kt0.out))
  all_goals
    go_wp2_with fail
    go_ret
    rw [HQ.out]
    exact ⟨v, m3, rfl, hr3, EX.out.trans e3, hm3⟩
set_option maxHeartbeats 4000000 in
set_option maxRecDepth 100000 in
theorem en4 (S : Nat → Prop) (es : List X) (db : List Tb) (cols : List (List Int)) (done : List (List R)) (nd : Nd) (h : Hd) (ve vd vc vr : Value) (w : World) (hl : RdG w ve es) (hdb : RdB9 S w vd db) (hc : RdS RdI S w vc cols) (hd : RdS RdR S w vr done) (hn : RdNd w ⟨h, nd⟩) (hU : Up S w) (hk : nd.k = 4)
    (hs : es.length ≤ 1000) (hx : OkX es) (ha : isIx nd.a done.length = true) (hb : isIx nd.b done.length = true) (hcl : isIx nd.b cols.length = true) (hoa : OkRs (atL done nd.a)) (hob : OkRs (atL done nd.b)) (hwa : Wid (atL done nd.a)) (hwb : Wid (atL done nd.b)) (hla : (atL done nd.a).length ≤ 1000000) (hlb : (atL done nd.b).length ≤ 1000000) (hwc : (atC cols nd.b).length ≤ 1000) :
    Calls Tryz.prog 48 #[eaV ve vd vc vr, ndV ⟨h, nd⟩] w (RoF S w (evN clsF es db cols nd done)) := by
  obtain ⟨ad, cap, rfl, _, _⟩ := hl.shape
  obtain ⟨dd, dcap, rfl, _, _⟩ := hdb.shape
  obtain ⟨cd, ccap, rfl, _, _⟩ := hc.shape
  obtain ⟨rd, rcap, rfl, _, cc2⟩ := hd.shape
  have HU := Lib.hid hU
  obtain ⟨hnx, hny⟩ := hn
  obtain ⟨xa, xn, xc, xb, xm, xd⟩ := h
  obtain ⟨nk, na, nb, np, ns, ex, ag⟩ := nd
  simp only [Hd.x, Hd.y] at *
  subst hk
  have HQ := Lib.hid (show evN clsF es db cols ⟨4, na, nb, np, ns, ex, ag⟩ done = jnL es np (decide ((4 : Int) = 5)) (atC cols nb).length (atL done na) (atL done nb) by simp [evN])
  have HC := Lib.hid (fun w' (hE : Ext w w') => jn_prg S es ⟨4, na, nb, np, ns, ex, ag⟩ ⟨xa, xn, xc, xb, xm, xd⟩ cols done dd db.length dcap (.slice ad es.length cap) (.slice cd cols.length ccap) (.slice rd done.length rcap) w' (hl.ext hE) (hc.ext rdI_ok hE) (hd.ext rdR_ok hE) (hU.ext hE) hs hx (by simp) ha hb hcl hoa hob hwa hwb hla hlb hwc)
  obtain ⟨n, hn⟩ : ∃ n, n = es.length := ⟨_, rfl⟩
  obtain ⟨m, hm⟩ : ∃ m, m = db.length := ⟨_, rfl⟩
  obtain ⟨q, hq⟩ : ∃ q, q = cols.length := ⟨_, rfl⟩
  obtain ⟨r, hr⟩ : ∃ r, r = done.length := ⟨_, rfl⟩
  try rw [← hn] at HC
  try rw [← hm] at HC
  try rw [← hq] at HC
  try rw [← hr] at HC
  rw [← hn, ← hm, ← hq, ← hr]
  unfold maxLen at cc2
  obtain ⟨w0, hw0⟩ : ∃ w0, w0 = (w.alloc (.cells #[.slice ad n cap, .slice dd m dcap, .slice cd q ccap, .slice rd r rcap] 111)).alloc (.cells #[.int .i64 4, .int .i64 na, .int .i64 nb, .int .i64 np, sv ns, .slice xa xn xc, .slice xb xm xd] 45) := ⟨_, rfl⟩
  have EX := Lib.hid (show Ext w w0 by rw [hw0]; exact ((Ext.refl _).alloc _ _).alloc _ _)
  have HBX := Lib.hid (show Bxn w.heap.size [.slice ad n cap, .slice dd m dcap, .slice cd q ccap, .slice rd r rcap] w0 by rw [hw0]; exact (Bxn.new w _ _).ext ((Ext.refl _).alloc _ _))
  have HBY := Lib.hid (show Bxn (w.heap.size + 1) [.int .i64 4, .int .i64 na, .int .i64 nb, .int .i64 np, sv ns, .slice xa xn xc, .slice xb xm xd] w0 by rw [hw0, ← alsz w]; exact Bxn.new _ _ _)
  have p0 := (HBX.out.2 0 _ rfl).1
  have p1 := (HBX.out.2 1 _ rfl).1
  have p2 := (HBX.out.2 2 _ rfl).1
  have p3 := (HBX.out.2 3 _ rfl).1
  have q0 := (HBY.out.2 0 _ rfl).1
  have q1 := (HBY.out.2 1 _ rfl).1
  have q2 := (HBY.out.2 2 _ rfl).1
  have q3 := (HBY.out.2 3 _ rfl).1
  have q4 := (HBY.out.2 4 _ rfl).1
  have q5 := (HBY.out.2 5 _ rfl).1
  have q6 := (HBY.out.2 6 _ rfl).1
  have sx := HBX.out.1
  have sy := HBY.out.1
  have HW0 := Lib.hid hw0
  clear hl hdb hc hd hnx hny hU hn hm hq hr hw0 hs hx ha hb hcl hoa hob hwa hwb hla hlb hwc
  have HC0 := Lib.hid (fun w' (hE : Ext w0 w') => (HC.out w' (EX.out.trans hE)).mono fun _ _ h => RoF.trans hE h)
  go_enter Tryz.func48, Tryz.ntmps48
  go_wp2_with fail
  rw [← HW0.out]
  clear HW0
  refine (HC0.out _ (Ext.refl _)).mono ?_; rintro e w3 ⟨v, m3, rfl, hr3, e3, hm3⟩
  go_wp2_with fail
  go_ret
  rw [HQ.out]
  exact ⟨v, m3, rfl, hr3, EX.out.trans e3, hm3⟩
set_option maxHeartbeats 4000000 in
set_option maxRecDepth 100000 in
theorem en5 (S : Nat → Prop) (es : List X) (db : List Tb) (cols : List (List Int)) (done : List (List R)) (nd : Nd) (h : Hd) (ve vd vc vr : Value) (w : World) (hl : RdG w ve es) (hdb : RdB9 S w vd db) (hc : RdS RdI S w vc cols) (hd : RdS RdR S w vr done) (hn : RdNd w ⟨h, nd⟩) (hU : Up S w) (hk : nd.k = 5)
    (hs : es.length ≤ 1000) (hx : OkX es) (ha : isIx nd.a done.length = true) (hb : isIx nd.b done.length = true) (hcl : isIx nd.b cols.length = true) (hoa : OkRs (atL done nd.a)) (hob : OkRs (atL done nd.b)) (hwa : Wid (atL done nd.a)) (hwb : Wid (atL done nd.b)) (hla : (atL done nd.a).length ≤ 1000000) (hlb : (atL done nd.b).length ≤ 1000000) (hwc : (atC cols nd.b).length ≤ 1000) :
    Calls Tryz.prog 48 #[eaV ve vd vc vr, ndV ⟨h, nd⟩] w (RoF S w (evN clsF es db cols nd done)) := by
  obtain ⟨ad, cap, rfl, _, _⟩ := hl.shape
  obtain ⟨dd, dcap, rfl, _, _⟩ := hdb.shape
  obtain ⟨cd, ccap, rfl, _, _⟩ := hc.shape
  obtain ⟨rd, rcap, rfl, _, cc2⟩ := hd.shape
  have HU := Lib.hid hU
  obtain ⟨hnx, hny⟩ := hn
  obtain ⟨xa, xn, xc, xb, xm, xd⟩ := h
  obtain ⟨nk, na, nb, np, ns, ex, ag⟩ := nd
  simp only [Hd.x, Hd.y] at *
  subst hk
  have HQ := Lib.hid (show evN clsF es db cols ⟨5, na, nb, np, ns, ex, ag⟩ done = jnL es np (decide ((5 : Int) = 5)) (atC cols nb).length (atL done na) (atL done nb) by simp [evN])
  have HC := Lib.hid (fun w' (hE : Ext w w') => jn_prg S es ⟨5, na, nb, np, ns, ex, ag⟩ ⟨xa, xn, xc, xb, xm, xd⟩ cols done dd db.length dcap (.slice ad es.length cap) (.slice cd cols.length ccap) (.slice rd done.length rcap) w' (hl.ext hE) (hc.ext rdI_ok hE) (hd.ext rdR_ok hE) (hU.ext hE) hs hx (by simp) ha hb hcl hoa hob hwa hwb hla hlb hwc)
  obtain ⟨n, hn⟩ : ∃ n, n = es.length := ⟨_, rfl⟩
  obtain ⟨m, hm⟩ : ∃ m, m = db.length := ⟨_, rfl⟩
  obtain ⟨q, hq⟩ : ∃ q, q = cols.length := ⟨_, rfl⟩
  obtain ⟨r, hr⟩ : ∃ r, r = done.length := ⟨_, rfl⟩
  try rw [← hn] at HC
  try rw [← hm] at HC
  try rw [← hq] at HC
  try rw [← hr] at HC
  rw [← hn, ← hm, ← hq, ← hr]
  unfold maxLen at cc2
  obtain ⟨w0, hw0⟩ : ∃ w0, w0 = (w.alloc (.cells #[.slice ad n cap, .slice dd m dcap, .slice cd q ccap, .slice rd r rcap] 111)).alloc (.cells #[.int .i64 5, .int .i64 na, .int .i64 nb, .int .i64 np, sv ns, .slice xa xn xc, .slice xb xm xd] 45) := ⟨_, rfl⟩
  have EX := Lib.hid (show Ext w w0 by rw [hw0]; exact ((Ext.refl _).alloc _ _).alloc _ _)
  have HBX := Lib.hid (show Bxn w.heap.size [.slice ad n cap, .slice dd m dcap, .slice cd q ccap, .slice rd r rcap] w0 by rw [hw0]; exact (Bxn.new w _ _).ext ((Ext.refl _).alloc _ _))
  have HBY := Lib.hid (show Bxn (w.heap.size + 1) [.int .i64 5, .int .i64 na, .int .i64 nb, .int .i64 np, sv ns, .slice xa xn xc, .slice xb xm xd] w0 by rw [hw0, ← alsz w]; exact Bxn.new _ _ _)
  have p0 := (HBX.out.2 0 _ rfl).1
  have p1 := (HBX.out.2 1 _ rfl).1
  have p2 := (HBX.out.2 2 _ rfl).1
  have p3 := (HBX.out.2 3 _ rfl).1
  have q0 := (HBY.out.2 0 _ rfl).1
  have q1 := (HBY.out.2 1 _ rfl).1
  have q2 := (HBY.out.2 2 _ rfl).1
  have q3 := (HBY.out.2 3 _ rfl).1
  have q4 := (HBY.out.2 4 _ rfl).1
  have q5 := (HBY.out.2 5 _ rfl).1
  have q6 := (HBY.out.2 6 _ rfl).1
  have sx := HBX.out.1
  have sy := HBY.out.1
  have HW0 := Lib.hid hw0
  clear hl hdb hc hd hnx hny hU hn hm hq hr hw0 hs hx ha hb hcl hoa hob hwa hwb hla hlb hwc
  have HC0 := Lib.hid (fun w' (hE : Ext w0 w') => (HC.out w' (EX.out.trans hE)).mono fun _ _ h => RoF.trans hE h)
  go_enter Tryz.func48, Tryz.ntmps48
  go_wp2_with fail
  rw [← HW0.out]
  clear HW0
  refine (HC0.out _ (Ext.refl _)).mono ?_; rintro e w3 ⟨v, m3, rfl, hr3, e3, hm3⟩
  go_wp2_with fail
  go_ret
  rw [HQ.out]
  exact ⟨v, m3, rfl, hr3, EX.out.trans e3, hm3⟩
set_option maxHeartbeats 4000000 in
set_option maxRecDepth 100000 in
theorem en6 (S : Nat → Prop) (es : List X) (db : List Tb) (cols : List (List Int)) (done : List (List R)) (nd : Nd) (h : Hd) (ve vd vc vr : Value) (w : World) (hl : RdG w ve es) (hdb : RdB9 S w vd db) (hc : RdS RdI S w vc cols) (hd : RdS RdR S w vr done) (hn : RdNd w ⟨h, nd⟩) (hU : Up S w) (hk : nd.k = 6)
    (ha : isIx nd.a done.length = true) (hb : isIx nd.b done.length = true) (hll : (atL done nd.a).length + (atL done nd.b).length ≤ 1000000) :
    Calls Tryz.prog 48 #[eaV ve vd vc vr, ndV ⟨h, nd⟩] w (RoF S w (evN clsF es db cols nd done)) := by
  obtain ⟨ad, cap, rfl, _, _⟩ := hl.shape
  obtain ⟨dd, dcap, rfl, _, _⟩ := hdb.shape
  obtain ⟨cd, ccap, rfl, _, _⟩ := hc.shape
  obtain ⟨rd, rcap, rfl, _, cc2⟩ := hd.shape
  have HU := Lib.hid hU
  obtain ⟨hnx, hny⟩ := hn
  obtain ⟨xa, xn, xc, xb, xm, xd⟩ := h
  obtain ⟨nk, na, nb, np, ns, ex, ag⟩ := nd
  simp only [Hd.x, Hd.y] at *
  subst hk
  obtain ⟨j, rfl⟩ := nat_of ((isIx_iff _ _).1 ha).1
  have hj : j < done.length := by have := ((isIx_iff _ _).1 ha).2; omega
  obtain ⟨g, o, a, c, rfl, d0, hrel⟩ := hd.at rdR_ok j hj
  have hat : atL done (j : Int) = done[j] := by simp [atL, List.getD, hj]
  obtain ⟨i, rfl⟩ := nat_of ((isIx_iff _ _).1 hb).1
  have hi : i < done.length := by have := ((isIx_iff _ _).1 hb).2; omega
  obtain ⟨g', o', a', c', e', d1, hrel'⟩ := hd.at rdR_ok i hi
  simp only [Option.some.injEq, Addr.mk.injEq, and_true] at e'
  obtain ⟨rfl, rfl⟩ := e'
  have hat' : atL done (i : Int) = done[i] := by simp [atL, List.getD, hi]
  have HQ := Lib.hid (show evN clsF es db cols ⟨6, (j : Int), (i : Int), np, ns, ex, ag⟩ done = done[j] ++ done[i] by simp [evN, hat, hat'])
  rw [hat, hat'] at hll
  have HC := Lib.hid (fun w' (hE : Ext w w') (b : Nat) (g0 : w'.cell? ⟨b, 0, none⟩ = some (.slice a done[j].length c)) (g1 : w'.cell? ⟨b, 1, none⟩ = some (.slice a' done[i].length c')) => cat_prg S done[j] done[i] _ _ b w' (rdR_ok.ext hrel hE) (rdR_ok.ext hrel' hE) (hU.ext hE) g0 g1 hll)
  obtain ⟨n, hn⟩ : ∃ n, n = es.length := ⟨_, rfl⟩
  obtain ⟨m, hm⟩ : ∃ m, m = db.length := ⟨_, rfl⟩
  obtain ⟨q, hq⟩ : ∃ q, q = cols.length := ⟨_, rfl⟩
  obtain ⟨r, hr⟩ : ∃ r, r = done.length := ⟨_, rfl⟩
  try rw [← hn] at HC
  try rw [← hm] at HC
  try rw [← hq] at HC
  try rw [← hr] at HC
  rw [← hn, ← hm, ← hq, ← hr]
  rw [← hr] at hj
  rw [← hr] at hi
  unfold maxLen at cc2
  obtain ⟨w0, hw0⟩ : ∃ w0, w0 = (w.alloc (.cells #[.slice ad n cap, .slice dd m dcap, .slice cd q ccap, .slice (some ⟨g, o, none⟩) r rcap] 111)).alloc (.cells #[.int .i64 6, .int .i64 (j : Int), .int .i64 (i : Int), .int .i64 np, sv ns, .slice xa xn xc, .slice xb xm xd] 45) := ⟨_, rfl⟩
  have EX := Lib.hid (show Ext w w0 by rw [hw0]; exact ((Ext.refl _).alloc _ _).alloc _ _)
  have HBX := Lib.hid (show Bxn w.heap.size [.slice ad n cap, .slice dd m dcap, .slice cd q ccap, .slice (some ⟨g, o, none⟩) r rcap] w0 by rw [hw0]; exact (Bxn.new w _ _).ext ((Ext.refl _).alloc _ _))
  have HBY := Lib.hid (show Bxn (w.heap.size + 1) [.int .i64 6, .int .i64 (j : Int), .int .i64 (i : Int), .int .i64 np, sv ns, .slice xa xn xc, .slice xb xm xd] w0 by rw [hw0, ← alsz w]; exact Bxn.new _ _ _)
  have p3 := (HBX.out.2 3 _ rfl).1
  have q1 := (HBY.out.2 1 _ rfl).1
  have q2 := (HBY.out.2 2 _ rfl).1
  have sx := HBX.out.1
  have sy := HBY.out.1
  have t0 := EX.out.keeps d0
  have t1 := EX.out.keeps d1
  have HW0 := Lib.hid hw0
  obtain ⟨al, hal⟩ : ∃ al, al = done[j].length := ⟨_, rfl⟩
  rw [← hal] at t0
  try rw [← hal] at HC
  obtain ⟨bl, hbl⟩ : ∃ bl, bl = done[i].length := ⟨_, rfl⟩
  rw [← hbl] at t1
  try rw [← hbl] at HC
  clear hl hdb hc hd hnx hny hU hn hm hq hr hw0 ha hat hrel d0 hal hb hat' hrel' d1 hbl hll
  have Kp3 := Lib.hid p3
  have Kq1 := Lib.hid q1
  have Kq2 := Lib.hid q2
  have Kt0 := Lib.hid t0
  have Kt1 := Lib.hid t1
  have HC0 := Lib.hid (fun w' (hE : Ext w0 w') b g0 g1 => (HC.out w' (EX.out.trans hE) b g0 g1).mono fun _ _ h => RoF.trans hE h)
  go_enter Tryz.func48, Tryz.ntmps48
  go_wp2_with fail
  rw [← HW0.out]
  clear HW0
  go_region_held3 (fun w' => w'.cell? ⟨w.heap.size, 3, none⟩ = some (.slice (some ⟨g, o, none⟩) r rcap) ∧ w'.cell? ⟨w.heap.size + 1, 1, none⟩ = some (.int .i64 (j : Int)) ∧ w'.cell? ⟨w.heap.size + 1, 2, none⟩ = some (.int .i64 (i : Int)) ∧ w'.cell? ⟨g, o + j, none⟩ = some (.slice a al c) ∧ w'.cell? ⟨g, o + i, none⟩ = some (Value.slice a' bl c')) (first | exact ⟨Kp3.out, Kq1.out, Kq2.out, Kt0.out, Kt1.out⟩ | exact ⟨fp3, fq1, fq2, ft0, ft1⟩ | go_keep)
    (first | (go_at_call 69; refine (HC0.out _ ?_ _ ?x2 ?x3).mono ?_; (first | exact (Ext.refl _).alloc _ _ | exact ((Ext.refl _).drew).alloc _ _); (case x2 => exact al0 _ _ _ _); (case x3 => exact al1 _ _ _ _); rintro e w3 ⟨v, m3, rfl, hr3, e3, hm3⟩; have fp3 := e3.keeps Kp3.out; have fq1 := e3.keeps Kq1.out; have fq2 := e3.keeps Kq2.out; have ft0 := e3.keeps Kt0.out; have ft1 := e3.keeps Kt1.out))
  all_goals
    go_wp2_with fail
    go_ret
    rw [HQ.out]
    exact ⟨v, m3, rfl, hr3, EX.out.trans e3, hm3⟩
set_option maxHeartbeats 4000000 in
set_option maxRecDepth 100000 in
theorem en7 (S : Nat → Prop) (es : List X) (db : List Tb) (cols : List (List Int)) (done : List (List R)) (nd : Nd) (h : Hd) (ve vd vc vr : Value) (w : World) (hl : RdG w ve es) (hdb : RdB9 S w vd db) (hc : RdS RdI S w vc cols) (hd : RdS RdR S w vr done) (hn : RdNd w ⟨h, nd⟩) (hU : Up S w) (hk : nd.k = 7)
    (hG : PT w) (ha : isIx nd.a done.length = true) (hb : isIx nd.b done.length = true) (hko : ∀ r ∈ atL done nd.a ++ atL done nd.b, KeyOk r.v) (hll : (atL done nd.a).length + (atL done nd.b).length ≤ 1000000) (hli : ∀ c ∈ clsF R.v (atL done nd.a ++ atL done nd.b), (c.2.flatMap R.t).length ≤ 100000000) (hres : ((clsF R.v (atL done nd.a ++ atL done nd.b)).flatMap (cmbC timE (atL done nd.a))).length ≤ 100000000) :
    Calls Tryz.prog 48 #[eaV ve vd vc vr, ndV ⟨h, nd⟩] w (RoF S w (evN clsF es db cols nd done)) := by
  obtain ⟨ad, cap, rfl, _, _⟩ := hl.shape
  obtain ⟨dd, dcap, rfl, _, _⟩ := hdb.shape
  obtain ⟨cd, ccap, rfl, _, _⟩ := hc.shape
  obtain ⟨rd, rcap, rfl, _, cc2⟩ := hd.shape
  have HU := Lib.hid hU
  obtain ⟨hnx, hny⟩ := hn
  obtain ⟨xa, xn, xc, xb, xm, xd⟩ := h
  obtain ⟨nk, na, nb, np, ns, ex, ag⟩ := nd
  simp only [Hd.x, Hd.y] at *
  subst hk
  obtain ⟨j, rfl⟩ := nat_of ((isIx_iff _ _).1 ha).1
  have hj : j < done.length := by have := ((isIx_iff _ _).1 ha).2; omega
  obtain ⟨g, o, a, c, rfl, d0, hrel⟩ := hd.at rdR_ok j hj
  have hat : atL done (j : Int) = done[j] := by simp [atL, List.getD, hj]
  obtain ⟨i, rfl⟩ := nat_of ((isIx_iff _ _).1 hb).1
  have hi : i < done.length := by have := ((isIx_iff _ _).1 hb).2; omega
  obtain ⟨g', o', a', c', e', d1, hrel'⟩ := hd.at rdR_ok i hi
  simp only [Option.some.injEq, Addr.mk.injEq, and_true] at e'
  obtain ⟨rfl, rfl⟩ := e'
  have hat' : atL done (i : Int) = done[i] := by simp [atL, List.getD, hi]
  have HQ := Lib.hid (show evN clsF es db cols ⟨7, (j : Int), (i : Int), np, ns, ex, ag⟩ done = (clsF R.v (done[j] ++ done[i])).flatMap (cmbC timE done[j]) by simp [evN, hat, hat'])
  rw [hat, hat'] at hko
  rw [hat, hat'] at hll
  rw [hat, hat'] at hli
  rw [hat, hat'] at hres
  have HC := Lib.hid (fun w' (hE : Ext w w') => (cmb_ex S done[j] done[i] _ _ w' (rdR_ok.ext hrel hE) (rdR_ok.ext hrel' hE) (hU.ext hE) (hG.ext hE) hko hll hli hres).mono (R' := RoF S w' ((clsF R.v (done[j] ++ done[i])).flatMap (cmbC timE done[j]))) fun _ _ h => RoP.f h)
  obtain ⟨n, hn⟩ : ∃ n, n = es.length := ⟨_, rfl⟩
  obtain ⟨m, hm⟩ : ∃ m, m = db.length := ⟨_, rfl⟩
  obtain ⟨q, hq⟩ : ∃ q, q = cols.length := ⟨_, rfl⟩
  obtain ⟨r, hr⟩ : ∃ r, r = done.length := ⟨_, rfl⟩
  try rw [← hn] at HC
  try rw [← hm] at HC
  try rw [← hq] at HC
  try rw [← hr] at HC
  rw [← hn, ← hm, ← hq, ← hr]
  rw [← hr] at hj
  rw [← hr] at hi
  unfold maxLen at cc2
  obtain ⟨w0, hw0⟩ : ∃ w0, w0 = (w.alloc (.cells #[.slice ad n cap, .slice dd m dcap, .slice cd q ccap, .slice (some ⟨g, o, none⟩) r rcap] 111)).alloc (.cells #[.int .i64 7, .int .i64 (j : Int), .int .i64 (i : Int), .int .i64 np, sv ns, .slice xa xn xc, .slice xb xm xd] 45) := ⟨_, rfl⟩
  have EX := Lib.hid (show Ext w w0 by rw [hw0]; exact ((Ext.refl _).alloc _ _).alloc _ _)
  have HBX := Lib.hid (show Bxn w.heap.size [.slice ad n cap, .slice dd m dcap, .slice cd q ccap, .slice (some ⟨g, o, none⟩) r rcap] w0 by rw [hw0]; exact (Bxn.new w _ _).ext ((Ext.refl _).alloc _ _))
  have HBY := Lib.hid (show Bxn (w.heap.size + 1) [.int .i64 7, .int .i64 (j : Int), .int .i64 (i : Int), .int .i64 np, sv ns, .slice xa xn xc, .slice xb xm xd] w0 by rw [hw0, ← alsz w]; exact Bxn.new _ _ _)
  have p3 := (HBX.out.2 3 _ rfl).1
  have q1 := (HBY.out.2 1 _ rfl).1
  have q2 := (HBY.out.2 2 _ rfl).1
  have sx := HBX.out.1
  have sy := HBY.out.1
  have t0 := EX.out.keeps d0
  have t1 := EX.out.keeps d1
  have HW0 := Lib.hid hw0
  obtain ⟨al, hal⟩ : ∃ al, al = done[j].length := ⟨_, rfl⟩
  rw [← hal] at t0
  try rw [← hal] at HC
  obtain ⟨bl, hbl⟩ : ∃ bl, bl = done[i].length := ⟨_, rfl⟩
  rw [← hbl] at t1
  try rw [← hbl] at HC
  clear hl hdb hc hd hnx hny hU hn hm hq hr hw0 ha hat hrel d0 hal hb hat' hrel' d1 hbl hG hko hll hli hres
  have Kp3 := Lib.hid p3
  have Kq1 := Lib.hid q1
  have Kq2 := Lib.hid q2
  have Kt0 := Lib.hid t0
  have Kt1 := Lib.hid t1
  have HC0 := Lib.hid (fun w' (hE : Ext w0 w') => (HC.out w' (EX.out.trans hE)).mono fun _ _ h => RoF.trans hE h)
  go_enter Tryz.func48, Tryz.ntmps48
  go_wp2_with fail
  rw [← HW0.out]
  clear HW0
  go_region_held3 (fun w' => w'.cell? ⟨w.heap.size, 3, none⟩ = some (.slice (some ⟨g, o, none⟩) r rcap) ∧ w'.cell? ⟨w.heap.size + 1, 1, none⟩ = some (.int .i64 (j : Int)) ∧ w'.cell? ⟨w.heap.size + 1, 2, none⟩ = some (.int .i64 (i : Int)) ∧ w'.cell? ⟨g, o + j, none⟩ = some (.slice a al c) ∧ w'.cell? ⟨g, o + i, none⟩ = some (Value.slice a' bl c')) (first | exact ⟨Kp3.out, Kq1.out, Kq2.out, Kt0.out, Kt1.out⟩ | exact ⟨fp3, fq1, fq2, ft0, ft1⟩ | go_keep)
    (first | (go_at_call 70; refine (HC0.out _ ?_).mono ?_; (first | exact Ext.refl _ | exact (Ext.refl _).drew); rintro e w3 ⟨v, m3, rfl, hr3, e3, hm3⟩; have fp3 := e3.keeps Kp3.out; have fq1 := e3.keeps Kq1.out; have fq2 := e3.keeps Kq2.out; have ft0 := e3.keeps Kt0.out; have ft1 := e3.keeps Kt1.out))
  all_goals
    go_wp2_with fail
    go_ret
    rw [HQ.out]
    exact ⟨v, m3, rfl, hr3, EX.out.trans e3, hm3⟩
set_option maxHeartbeats 4000000 in
set_option maxRecDepth 100000 in
theorem en8 (S : Nat → Prop) (es : List X) (db : List Tb) (cols : List (List Int)) (done : List (List R)) (nd : Nd) (h : Hd) (ve vd vc vr : Value) (w : World) (hl : RdG w ve es) (hdb : RdB9 S w vd db) (hc : RdS RdI S w vc cols) (hd : RdS RdR S w vr done) (hn : RdNd w ⟨h, nd⟩) (hU : Up S w) (hk : nd.k = 8)
    (hG : PT w) (ha : isIx nd.a done.length = true) (hb : isIx nd.b done.length = true) (hko : ∀ r ∈ atL done nd.a ++ atL done nd.b, KeyOk r.v) (hll : (atL done nd.a).length + (atL done nd.b).length ≤ 1000000) (hli : ∀ c ∈ clsF R.v (atL done nd.a ++ atL done nd.b), (c.2.flatMap R.t).length ≤ 100000000) (hres : ((clsF R.v (atL done nd.a ++ atL done nd.b)).flatMap (cmbC timI (atL done nd.a))).length ≤ 100000000) :
    Calls Tryz.prog 48 #[eaV ve vd vc vr, ndV ⟨h, nd⟩] w (RoF S w (evN clsF es db cols nd done)) := by
  obtain ⟨ad, cap, rfl, _, _⟩ := hl.shape
  obtain ⟨dd, dcap, rfl, _, _⟩ := hdb.shape
  obtain ⟨cd, ccap, rfl, _, _⟩ := hc.shape
  obtain ⟨rd, rcap, rfl, _, cc2⟩ := hd.shape
  have HU := Lib.hid hU
  obtain ⟨hnx, hny⟩ := hn
  obtain ⟨xa, xn, xc, xb, xm, xd⟩ := h
  obtain ⟨nk, na, nb, np, ns, ex, ag⟩ := nd
  simp only [Hd.x, Hd.y] at *
  subst hk
  obtain ⟨j, rfl⟩ := nat_of ((isIx_iff _ _).1 ha).1
  have hj : j < done.length := by have := ((isIx_iff _ _).1 ha).2; omega
  obtain ⟨g, o, a, c, rfl, d0, hrel⟩ := hd.at rdR_ok j hj
  have hat : atL done (j : Int) = done[j] := by simp [atL, List.getD, hj]
  obtain ⟨i, rfl⟩ := nat_of ((isIx_iff _ _).1 hb).1
  have hi : i < done.length := by have := ((isIx_iff _ _).1 hb).2; omega
  obtain ⟨g', o', a', c', e', d1, hrel'⟩ := hd.at rdR_ok i hi
  simp only [Option.some.injEq, Addr.mk.injEq, and_true] at e'
  obtain ⟨rfl, rfl⟩ := e'
  have hat' : atL done (i : Int) = done[i] := by simp [atL, List.getD, hi]
  have HQ := Lib.hid (show evN clsF es db cols ⟨8, (j : Int), (i : Int), np, ns, ex, ag⟩ done = (clsF R.v (done[j] ++ done[i])).flatMap (cmbC timI done[j]) by simp [evN, hat, hat'])
  rw [hat, hat'] at hko
  rw [hat, hat'] at hll
  rw [hat, hat'] at hli
  rw [hat, hat'] at hres
  have HC := Lib.hid (fun w' (hE : Ext w w') => (cmb_is S done[j] done[i] _ _ w' (rdR_ok.ext hrel hE) (rdR_ok.ext hrel' hE) (hU.ext hE) (hG.ext hE) hko hll hli hres).mono (R' := RoF S w' ((clsF R.v (done[j] ++ done[i])).flatMap (cmbC timI done[j]))) fun _ _ h => RoP.f h)
  obtain ⟨n, hn⟩ : ∃ n, n = es.length := ⟨_, rfl⟩
  obtain ⟨m, hm⟩ : ∃ m, m = db.length := ⟨_, rfl⟩
  obtain ⟨q, hq⟩ : ∃ q, q = cols.length := ⟨_, rfl⟩
  obtain ⟨r, hr⟩ : ∃ r, r = done.length := ⟨_, rfl⟩
  try rw [← hn] at HC
  try rw [← hm] at HC
  try rw [← hq] at HC
  try rw [← hr] at HC
  rw [← hn, ← hm, ← hq, ← hr]
  rw [← hr] at hj
  rw [← hr] at hi
  unfold maxLen at cc2
  obtain ⟨w0, hw0⟩ : ∃ w0, w0 = (w.alloc (.cells #[.slice ad n cap, .slice dd m dcap, .slice cd q ccap, .slice (some ⟨g, o, none⟩) r rcap] 111)).alloc (.cells #[.int .i64 8, .int .i64 (j : Int), .int .i64 (i : Int), .int .i64 np, sv ns, .slice xa xn xc, .slice xb xm xd] 45) := ⟨_, rfl⟩
  have EX := Lib.hid (show Ext w w0 by rw [hw0]; exact ((Ext.refl _).alloc _ _).alloc _ _)
  have HBX := Lib.hid (show Bxn w.heap.size [.slice ad n cap, .slice dd m dcap, .slice cd q ccap, .slice (some ⟨g, o, none⟩) r rcap] w0 by rw [hw0]; exact (Bxn.new w _ _).ext ((Ext.refl _).alloc _ _))
  have HBY := Lib.hid (show Bxn (w.heap.size + 1) [.int .i64 8, .int .i64 (j : Int), .int .i64 (i : Int), .int .i64 np, sv ns, .slice xa xn xc, .slice xb xm xd] w0 by rw [hw0, ← alsz w]; exact Bxn.new _ _ _)
  have p3 := (HBX.out.2 3 _ rfl).1
  have q1 := (HBY.out.2 1 _ rfl).1
  have q2 := (HBY.out.2 2 _ rfl).1
  have sx := HBX.out.1
  have sy := HBY.out.1
  have t0 := EX.out.keeps d0
  have t1 := EX.out.keeps d1
  have HW0 := Lib.hid hw0
  obtain ⟨al, hal⟩ : ∃ al, al = done[j].length := ⟨_, rfl⟩
  rw [← hal] at t0
  try rw [← hal] at HC
  obtain ⟨bl, hbl⟩ : ∃ bl, bl = done[i].length := ⟨_, rfl⟩
  rw [← hbl] at t1
  try rw [← hbl] at HC
  clear hl hdb hc hd hnx hny hU hn hm hq hr hw0 ha hat hrel d0 hal hb hat' hrel' d1 hbl hG hko hll hli hres
  have Kp3 := Lib.hid p3
  have Kq1 := Lib.hid q1
  have Kq2 := Lib.hid q2
  have Kt0 := Lib.hid t0
  have Kt1 := Lib.hid t1
  have HC0 := Lib.hid (fun w' (hE : Ext w0 w') => (HC.out w' (EX.out.trans hE)).mono fun _ _ h => RoF.trans hE h)
  go_enter Tryz.func48, Tryz.ntmps48
  go_wp2_with fail
  rw [← HW0.out]
  clear HW0
  go_region_held3 (fun w' => w'.cell? ⟨w.heap.size, 3, none⟩ = some (.slice (some ⟨g, o, none⟩) r rcap) ∧ w'.cell? ⟨w.heap.size + 1, 1, none⟩ = some (.int .i64 (j : Int)) ∧ w'.cell? ⟨w.heap.size + 1, 2, none⟩ = some (.int .i64 (i : Int)) ∧ w'.cell? ⟨g, o + j, none⟩ = some (.slice a al c) ∧ w'.cell? ⟨g, o + i, none⟩ = some (Value.slice a' bl c')) (first | exact ⟨Kp3.out, Kq1.out, Kq2.out, Kt0.out, Kt1.out⟩ | exact ⟨fp3, fq1, fq2, ft0, ft1⟩ | go_keep)
    (first | (go_at_call 70; refine (HC0.out _ ?_).mono ?_; (first | exact Ext.refl _ | exact (Ext.refl _).drew); rintro e w3 ⟨v, m3, rfl, hr3, e3, hm3⟩; have fp3 := e3.keeps Kp3.out; have fq1 := e3.keeps Kq1.out; have fq2 := e3.keeps Kq2.out; have ft0 := e3.keeps Kt0.out; have ft1 := e3.keeps Kt1.out))
  all_goals
    go_wp2_with fail
    go_ret
    rw [HQ.out]
    exact ⟨v, m3, rfl, hr3, EX.out.trans e3, hm3⟩
set_option maxHeartbeats 4000000 in
set_option maxRecDepth 100000 in
theorem en9 (S : Nat → Prop) (es : List X) (db : List Tb) (cols : List (List Int)) (done : List (List R)) (nd : Nd) (h : Hd) (ve vd vc vr : Value) (w : World) (hl : RdG w ve es) (hdb : RdB9 S w vd db) (hc : RdS RdI S w vc cols) (hd : RdS RdR S w vr done) (hn : RdNd w ⟨h, nd⟩) (hU : Up S w) (hk : nd.k = 9)
    (hG : PT w) (ha : isIx nd.a done.length = true) (hko : ∀ r ∈ atL done nd.a, KeyOk r.v) (hll : (atL done nd.a).length ≤ 1000000) (hli : ∀ c ∈ clsF R.v (atL done nd.a), (c.2.flatMap R.t).length ≤ 100000000) :
    Calls Tryz.prog 48 #[eaV ve vd vc vr, ndV ⟨h, nd⟩] w (RoF S w (evN clsF es db cols nd done)) := by
  obtain ⟨ad, cap, rfl, _, _⟩ := hl.shape
  obtain ⟨dd, dcap, rfl, _, _⟩ := hdb.shape
  obtain ⟨cd, ccap, rfl, _, _⟩ := hc.shape
  obtain ⟨rd, rcap, rfl, _, cc2⟩ := hd.shape
  have HU := Lib.hid hU
  obtain ⟨hnx, hny⟩ := hn
  obtain ⟨xa, xn, xc, xb, xm, xd⟩ := h
  obtain ⟨nk, na, nb, np, ns, ex, ag⟩ := nd
  simp only [Hd.x, Hd.y] at *
  subst hk
  obtain ⟨j, rfl⟩ := nat_of ((isIx_iff _ _).1 ha).1
  have hj : j < done.length := by have := ((isIx_iff _ _).1 ha).2; omega
  obtain ⟨g, o, a, c, rfl, d0, hrel⟩ := hd.at rdR_ok j hj
  have hat : atL done (j : Int) = done[j] := by simp [atL, List.getD, hj]
  have HQ := Lib.hid (show evN clsF es db cols ⟨9, (j : Int), nb, np, ns, ex, ag⟩ done = (clsF R.v done[j]).map oneD by simp [evN, hat, oneD])
  rw [hat] at hko
  rw [hat] at hll
  rw [hat] at hli
  have HC := Lib.hid (fun w' (hE : Ext w w') => (dst_prg S done[j] _ w' (rdR_ok.ext hrel hE) (hU.ext hE) (hG.ext hE) hko hll hli).mono (R' := RoF S w' ((clsF R.v done[j]).map oneD)) fun _ _ h => RoP.f h)
  obtain ⟨n, hn⟩ : ∃ n, n = es.length := ⟨_, rfl⟩
  obtain ⟨m, hm⟩ : ∃ m, m = db.length := ⟨_, rfl⟩
  obtain ⟨q, hq⟩ : ∃ q, q = cols.length := ⟨_, rfl⟩
  obtain ⟨r, hr⟩ : ∃ r, r = done.length := ⟨_, rfl⟩
  try rw [← hn] at HC
  try rw [← hm] at HC
  try rw [← hq] at HC
  try rw [← hr] at HC
  rw [← hn, ← hm, ← hq, ← hr]
  rw [← hr] at hj
  unfold maxLen at cc2
  obtain ⟨w0, hw0⟩ : ∃ w0, w0 = (w.alloc (.cells #[.slice ad n cap, .slice dd m dcap, .slice cd q ccap, .slice (some ⟨g, o, none⟩) r rcap] 111)).alloc (.cells #[.int .i64 9, .int .i64 (j : Int), .int .i64 nb, .int .i64 np, sv ns, .slice xa xn xc, .slice xb xm xd] 45) := ⟨_, rfl⟩
  have EX := Lib.hid (show Ext w w0 by rw [hw0]; exact ((Ext.refl _).alloc _ _).alloc _ _)
  have HBX := Lib.hid (show Bxn w.heap.size [.slice ad n cap, .slice dd m dcap, .slice cd q ccap, .slice (some ⟨g, o, none⟩) r rcap] w0 by rw [hw0]; exact (Bxn.new w _ _).ext ((Ext.refl _).alloc _ _))
  have HBY := Lib.hid (show Bxn (w.heap.size + 1) [.int .i64 9, .int .i64 (j : Int), .int .i64 nb, .int .i64 np, sv ns, .slice xa xn xc, .slice xb xm xd] w0 by rw [hw0, ← alsz w]; exact Bxn.new _ _ _)
  have p3 := (HBX.out.2 3 _ rfl).1
  have q1 := (HBY.out.2 1 _ rfl).1
  have sx := HBX.out.1
  have sy := HBY.out.1
  have t0 := EX.out.keeps d0
  have HW0 := Lib.hid hw0
  obtain ⟨al, hal⟩ : ∃ al, al = done[j].length := ⟨_, rfl⟩
  rw [← hal] at t0
  try rw [← hal] at HC
  have t0' := t0
  rw [hw0] at t0'
  clear hl hdb hc hd hnx hny hU hn hm hq hr hw0 ha hat hrel d0 hal hG hko hll hli
  have HC0 := Lib.hid (fun w' (hE : Ext w0 w') => (HC.out w' (EX.out.trans hE)).mono fun _ _ h => RoF.trans hE h)
  go_enter Tryz.func48, Tryz.ntmps48
  go_wp2_with fail
  rw [← HW0.out]
  clear HW0
  refine (HC0.out _ (Ext.refl _)).mono ?_; rintro e w3 ⟨v, m3, rfl, hr3, e3, hm3⟩
  go_wp2_with fail
  go_ret
  rw [HQ.out]
  exact ⟨v, m3, rfl, hr3, EX.out.trans e3, hm3⟩
set_option maxHeartbeats 4000000 in
set_option maxRecDepth 100000 in
theorem en10 (S : Nat → Prop) (es : List X) (db : List Tb) (cols : List (List Int)) (done : List (List R)) (nd : Nd) (h : Hd) (ve vd vc vr : Value) (w : World) (hl : RdG w ve es) (hdb : RdB9 S w vd db) (hc : RdS RdI S w vc cols) (hd : RdS RdR S w vr done) (hn : RdNd w ⟨h, nd⟩) (hU : Up S w) (hk : nd.k = 10)
    (hs : es.length ≤ 1000) (hx : OkX es) (hG : PT w) (ha : isIx nd.a done.length = true) (ho : OkRs (atL done nd.a)) (hko : ∀ r ∈ atL done nd.a, KeyOk (valL es nd.ex r.v)) (hll : (atL done nd.a).length ≤ 1000000) (hee : nd.ex.length ≤ 1000000) (hag : nd.ag.length ≤ 1000000) (hak : ∀ g ∈ nd.ag, 1 ≤ g.1 ∧ g.1 ≤ 4) (hli : ∀ c ∈ clsF (fun r => valL es nd.ex r.v) (atL done nd.a), (c.2.flatMap R.t).length ≤ 100000000) :
    Calls Tryz.prog 48 #[eaV ve vd vc vr, ndV ⟨h, nd⟩] w (RoF S w (evN clsF es db cols nd done)) := by
  obtain ⟨ad, cap, rfl, _, _⟩ := hl.shape
  obtain ⟨dd, dcap, rfl, _, _⟩ := hdb.shape
  obtain ⟨cd, ccap, rfl, _, _⟩ := hc.shape
  obtain ⟨rd, rcap, rfl, _, cc2⟩ := hd.shape
  have HU := Lib.hid hU
  obtain ⟨hnx, hny⟩ := hn
  obtain ⟨xa, xn, xc, xb, xm, xd⟩ := h
  obtain ⟨nk, na, nb, np, ns, ex, ag⟩ := nd
  simp only [Hd.x, Hd.y] at *
  subst hk
  obtain ⟨j, rfl⟩ := nat_of ((isIx_iff _ _).1 ha).1
  have hj : j < done.length := by have := ((isIx_iff _ _).1 ha).2; omega
  obtain ⟨g, o, a, c, rfl, d0, hrel⟩ := hd.at rdR_ok j hj
  have hat : atL done (j : Int) = done[j] := by simp [atL, List.getD, hj]
  have HQ := Lib.hid (show evN clsF es db cols ⟨10, (j : Int), nb, np, ns, ex, ag⟩ done = (oneC ex (clsF (fun r => valL es ex r.v) done[j])).map (grpR es ag) by simp [evN, hat])
  rw [hat] at ho
  rw [hat] at hko
  rw [hat] at hll
  rw [hat] at hli
  have HC := Lib.hid (fun w' (hE : Ext w w') => (grpE_prg S es ⟨10, j, nb, np, ns, ex, ag⟩ ⟨xa, xn, xc, xb, xm, xd⟩ done[j] dd cd (some ⟨g, o, none⟩) db.length cols.length done.length dcap ccap rcap (.slice ad es.length cap) (.slice a done[j].length c) w' (hl.ext hE) ⟨hnx.ext hE, hny.ext hE⟩ (rdR_ok.ext hrel hE) (hU.ext hE) (hG.ext hE) hs hx ho hko hll hee hag hak hli).mono (R' := RoF S w' ((oneC ex (clsF (fun r => valL es ex r.v) done[j])).map (grpR es ag))) fun _ _ h => RoP.f h)
  obtain ⟨n, hn⟩ : ∃ n, n = es.length := ⟨_, rfl⟩
  obtain ⟨m, hm⟩ : ∃ m, m = db.length := ⟨_, rfl⟩
  obtain ⟨q, hq⟩ : ∃ q, q = cols.length := ⟨_, rfl⟩
  obtain ⟨r, hr⟩ : ∃ r, r = done.length := ⟨_, rfl⟩
  try rw [← hn] at HC
  try rw [← hm] at HC
  try rw [← hq] at HC
  try rw [← hr] at HC
  rw [← hn, ← hm, ← hq, ← hr]
  rw [← hr] at hj
  unfold maxLen at cc2
  obtain ⟨w0, hw0⟩ : ∃ w0, w0 = (w.alloc (.cells #[.slice ad n cap, .slice dd m dcap, .slice cd q ccap, .slice (some ⟨g, o, none⟩) r rcap] 111)).alloc (.cells #[.int .i64 10, .int .i64 (j : Int), .int .i64 nb, .int .i64 np, sv ns, .slice xa xn xc, .slice xb xm xd] 45) := ⟨_, rfl⟩
  have EX := Lib.hid (show Ext w w0 by rw [hw0]; exact ((Ext.refl _).alloc _ _).alloc _ _)
  have HBX := Lib.hid (show Bxn w.heap.size [.slice ad n cap, .slice dd m dcap, .slice cd q ccap, .slice (some ⟨g, o, none⟩) r rcap] w0 by rw [hw0]; exact (Bxn.new w _ _).ext ((Ext.refl _).alloc _ _))
  have HBY := Lib.hid (show Bxn (w.heap.size + 1) [.int .i64 10, .int .i64 (j : Int), .int .i64 nb, .int .i64 np, sv ns, .slice xa xn xc, .slice xb xm xd] w0 by rw [hw0, ← alsz w]; exact Bxn.new _ _ _)
  have p0 := (HBX.out.2 0 _ rfl).1
  have p1 := (HBX.out.2 1 _ rfl).1
  have p2 := (HBX.out.2 2 _ rfl).1
  have p3 := (HBX.out.2 3 _ rfl).1
  have q0 := (HBY.out.2 0 _ rfl).1
  have q1 := (HBY.out.2 1 _ rfl).1
  have q2 := (HBY.out.2 2 _ rfl).1
  have q3 := (HBY.out.2 3 _ rfl).1
  have q4 := (HBY.out.2 4 _ rfl).1
  have q5 := (HBY.out.2 5 _ rfl).1
  have q6 := (HBY.out.2 6 _ rfl).1
  have sx := HBX.out.1
  have sy := HBY.out.1
  have t0 := EX.out.keeps d0
  have HW0 := Lib.hid hw0
  obtain ⟨al, hal⟩ : ∃ al, al = done[j].length := ⟨_, rfl⟩
  rw [← hal] at t0
  try rw [← hal] at HC
  clear hl hdb hc hd hnx hny hU hn hm hq hr hw0 ha hat hrel d0 hal hs hx hG ho hko hll hee hag hak hli
  have Kp0 := Lib.hid p0
  have Kp1 := Lib.hid p1
  have Kp2 := Lib.hid p2
  have Kp3 := Lib.hid p3
  have Kq0 := Lib.hid q0
  have Kq1 := Lib.hid q1
  have Kq2 := Lib.hid q2
  have Kq3 := Lib.hid q3
  have Kq4 := Lib.hid q4
  have Kq5 := Lib.hid q5
  have Kq6 := Lib.hid q6
  have Kt0 := Lib.hid t0
  have HC0 := Lib.hid (fun w' (hE : Ext w0 w') => (HC.out w' (EX.out.trans hE)).mono fun _ _ h => RoF.trans hE h)
  go_enter Tryz.func48, Tryz.ntmps48
  go_wp2_with fail
  rw [← HW0.out]
  clear HW0
  go_region_held3 (fun w' => w'.cell? ⟨w.heap.size, 0, none⟩ = some (.slice ad n cap) ∧ w'.cell? ⟨w.heap.size, 1, none⟩ = some (.slice dd m dcap) ∧ w'.cell? ⟨w.heap.size, 2, none⟩ = some (.slice cd q ccap) ∧ w'.cell? ⟨w.heap.size, 3, none⟩ = some (.slice (some ⟨g, o, none⟩) r rcap) ∧ w'.cell? ⟨w.heap.size + 1, 0, none⟩ = some (.int .i64 10) ∧ w'.cell? ⟨w.heap.size + 1, 1, none⟩ = some (.int .i64 (j : Int)) ∧ w'.cell? ⟨w.heap.size + 1, 2, none⟩ = some (.int .i64 nb) ∧ w'.cell? ⟨w.heap.size + 1, 3, none⟩ = some (.int .i64 np) ∧ w'.cell? ⟨w.heap.size + 1, 4, none⟩ = some (sv ns) ∧ w'.cell? ⟨w.heap.size + 1, 5, none⟩ = some (.slice xa xn xc) ∧ w'.cell? ⟨w.heap.size + 1, 6, none⟩ = some (.slice xb xm xd) ∧ w'.cell? ⟨g, o + j, none⟩ = some (.slice a al c)) (first | exact ⟨Kp0.out, Kp1.out, Kp2.out, Kp3.out, Kq0.out, Kq1.out, Kq2.out, Kq3.out, Kq4.out, Kq5.out, Kq6.out, Kt0.out⟩ | exact ⟨fp0, fp1, fp2, fp3, fq0, fq1, fq2, fq3, fq4, fq5, fq6, ft0⟩ | go_keep)
    (first | (go_at_call 73; refine (HC0.out _ ?_).mono ?_; (first | exact Ext.refl _ | exact (Ext.refl _).drew); rintro e w3 ⟨v, m3, rfl, hr3, e3, hm3⟩; have fp0 := e3.keeps Kp0.out; have fp1 := e3.keeps Kp1.out; have fp2 := e3.keeps Kp2.out; have fp3 := e3.keeps Kp3.out; have fq0 := e3.keeps Kq0.out; have fq1 := e3.keeps Kq1.out; have fq2 := e3.keeps Kq2.out; have fq3 := e3.keeps Kq3.out; have fq4 := e3.keeps Kq4.out; have fq5 := e3.keeps Kq5.out; have fq6 := e3.keeps Kq6.out; have ft0 := e3.keeps Kt0.out))
  all_goals
    go_wp2_with fail
    go_ret
    rw [HQ.out]
    exact ⟨v, m3, rfl, hr3, EX.out.trans e3, hm3⟩
end Go.Proofs.YtbplapkcleipiaaGreatDoor
