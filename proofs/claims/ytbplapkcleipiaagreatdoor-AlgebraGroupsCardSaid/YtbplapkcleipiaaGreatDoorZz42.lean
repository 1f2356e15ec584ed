/- Evaluating a query, of the program: evalNodes. -/
import Derived.Test.YtbplapkcleipiaaGreatDoorZz03
import Derived.Test.YtbplapkcleipiaaGreatDoorZz26
import Derived.Test.YtbplapkcleipiaaGreatDoorZz41
namespace Go.Proofs.YtbplapkcleipiaaGreatDoor
open Go.ChangeShapes Go.WideShapes Go.ChangeAt Go.RowKit

theorem colsQ_at (es : List X) (ts : List Tt) (cols : List (List Int)) : ∀ (l : List Nd) (done : List (List Int)), colsQ es ts l done = (cols, 0) → cols.take done.length = done ∧ ∀ k (h : k < l.length), ∃ c, chkN es ts l[k] (cols.take (done.length + k)) = (c, 0) ∧ cols[done.length + k]? = some c
  | [], done, h => by
    injection h with h _; subst h
    exact ⟨by simp, fun k h => by simp at h⟩
  | n :: l, done, h => by
    unfold colsQ at h
    by_cases h1 : (chkN es ts n done).2 ≠ 0
    · rw [if_pos h1] at h; injection h with _ h; exact absurd h h1
    rw [if_neg h1] at h
    obtain ⟨i1, i2⟩ := colsQ_at es ts cols l _ h
    rw [List.length_append] at i1 i2
    simp only [List.length_cons, List.length_nil, Nat.zero_add] at i1 i2
    have hd : cols.take done.length = done := by
      have := congrArg (List.take done.length) i1
      rw [List.take_take, Nat.min_eq_left (by omega)] at this
      rw [this]; simp
    refine ⟨hd, fun k hk => ?_⟩
    cases k with
    | zero =>
      refine ⟨(chkN es ts n done).1, ?_, ?_⟩
      · simp only [List.getElem_cons_zero, Nat.add_zero, hd]
        have h1 : (chkN es ts n done).2 = 0 := by simpa using h1
        rw [← h1]
      · have := congrArg (fun l => l[done.length]?) i1
        simp only [List.getElem?_take, List.getElem?_append_right (Nat.le_refl _), Nat.sub_self, List.getElem?_cons_zero] at this
        rw [if_pos (by omega)] at this
        simpa using this
    | succ k =>
      obtain ⟨c, c1, c2⟩ := i2 k (by simpa using hk)
      exact ⟨c, by rw [List.getElem_cons_succ, show done.length + (k + 1) = done.length + 1 + k by omega]; exact c1, by rw [show done.length + (k + 1) = done.length + 1 + k by omega]; exact c2⟩
theorem colQ_at {es : List X} {ts : List Tt} {cols : List (List Int)} {l : List Nd} (h : colQ es ts l = (cols, 0)) : ∀ k (h : k < l.length), ∃ c, Chk es ts (cols.take k) l[k] c ∧ cols[k]? = some c := by
  unfold colQ at h
  split at h
  · injection h with _ h; exact absurd h (by decide)
  · obtain ⟨_, h2⟩ := colsQ_at es ts cols l [] h
    intro k hk
    obtain ⟨c, c1, c2⟩ := h2 k hk
    simp only [List.length_nil, Nat.zero_add] at c1 c2
    exact ⟨c, chk_of c1, c2⟩
theorem atC_take (cols : List (List Int)) (k : Nat) (i : Int) (h : i.toNat < k) : atC (cols.take k) i = atC cols i := by
  unfold atC
  simp [List.getD, h]
theorem done_step {T : Nat} {Z : List Int} {cols : List (List Int)} {done : List (List R)} {l : List R} {c : List Int} (h : DoneB T Z (cols.take done.length) done) (hc : cols[done.length]? = some c) (hl : l.length ≤ 4096) (hg : RowsB T Z (6 * c.length) l) : DoneB T Z (cols.take (done.length + 1)) (done ++ [l]) := by
  intro i hi
  have hi' := (isIx_iff _ _).1 hi
  rw [List.length_append] at hi'
  simp only [List.length_cons, List.length_nil] at hi'
  rw [atL_snoc]
  by_cases e : i.toNat = done.length
  · rw [if_pos e]
    refine ⟨hl, ?_⟩
    rw [atC_take _ _ _ (by omega)]
    unfold atC
    rw [List.getD, e, hc]; exact hg
  · rw [if_neg e, atC_take _ _ _ (by omega)]
    have h2 := h i ((isIx_iff _ _).2 (by omega))
    rw [atC_take _ _ _ (by omega)] at h2
    exact h2
theorem evsQ_step (es : List X) (db : List Tb) (cols : List (List Int)) (n : Nd) (l : List Nd) (done : List (List R)) : evsQ clsF es db cols (n :: l) done = if 4096 < (evN clsF es db cols n done).length then ([], 12) else evsQ clsF es db cols l (done ++ [evN clsF es db cols n done]) := rfl
def EvNR (S : Nat → Prop) (W0 : World) (cb : Nat) (T : Nat) (Z : List Int) (es : List X) (db : List Tb) (cols : List (List Int)) (ns : List Nd) (ve vd vc : Value) (i : Value) (wr : World) : Prop :=
  ∃ (k : Nat) (done : List (List R)) (vr : Value), k ≤ ns.length ∧ i = .int .i64 k ∧ done.length = k ∧ evsQ clsF es db cols ns [] = evsQ clsF es db cols (ns.drop k) done ∧ OwnS tL.e RdR (fun g => S g ∧ g ≠ cb) W0 wr vr done ∧ (∀ g, vr.ownBlock = some g → g ≠ cb) ∧ Bxn cb [ve, vd, vc, vr] wr ∧ DoneB T Z (cols.take k) done
/-- what is handed back: the rows of all nodes, an error -/
def EqP (S : Nat → Prop) (w : World) (c : List (List R) × Int) (e : Ending) (w' : World) : Prop := ∃ v, e = .returned (.tuple #[v, .int .i64 c.2]) ∧ RdS RdR S w' v c.1 ∧ Ext w w'
theorem EqP.err (S : Nat → Prop) {w w' : World} {c : List (List R) × Int} {n : Int} (h : c = ([], n)) (hE : Ext w w') : EqP S w c (.returned (.tuple #[.slice none 0 0, .int .i64 n])) w' := by
  subst h; exact ⟨_, rfl, ⟨[], rdG_nil _, fun q hq => (by cases hq), rfl⟩, hE⟩
set_option maxHeartbeats 8000000 in
set_option maxRecDepth 100000 in
theorem evs_prg (S : Nat → Prop) (T : Nat) (Z : List Int) (es : List X) (ns : List Nd) (db : List Tb) (cols : List (List Int)) (vn ve vd vc : Value) (w : World) (hn : RdN w vn ns) (hl : RdG w ve es) (hdb : RdB9 S w vd db) (hc : RdS RdI S w vc cols) (hU : Up S w) (hG : PT w)
    (hx : GoodX T es) (hT : T ≤ 1073741824) (hZ : Z.length ≤ 10000) (hbd : ∀ tb ∈ db, RowsB T Z 6 tb.l) (hq : colQ es (db.map Tb.t) ns = (cols, 0)) :
    Calls Tryz.prog 29 #[.agg #[vn, ve], vd, vc] w (EqP S w (evsQ clsF es db cols ns [])) := by
  have hlen := colQ_len es (db.map Tb.t) ns (by rw [hq])
  rw [hq] at hlen
  simp only at hlen
  have hwid := colQ_wid es (db.map Tb.t) ns
  rw [hq] at hwid
  simp only at hwid
  have HCH := Lib.hid (colQ_at hq)
  have HEV := Lib.hid (fun (S' : Nat → Prop) (pre : List (List Int)) (done : List (List R)) (x : Nd) (h : Hd) (c : List Int) vr w' (hE : Ext w w') (hS : ∀ g, g < w.heap.size → S g → S' g) (hU' : Up S' w') (hd : RdS RdR S' w' vr done) (hx' : RdNd w' ⟨h, x⟩) (hD : DoneB T Z pre done) (hpl : pre.length = done.length) (hk : Chk es (db.map Tb.t) pre x c) (hw : ∀ c ∈ pre, c.length ≤ 64) (hcl : done.length ≤ cols.length) (hcb : ∀ i, isIx i done.length = true → atC cols i = atC pre i) =>
    evN_prg S' T Z es db cols pre done x h c ve vd vc vr w' (hl.ext hE) ((hdb.mono hS).ext hE) ((hc.mono rdI_ok hS).ext rdI_ok hE) hd hx' hU' (hG.ext hE) (by omega) hx hT hZ hD hpl hk hw hcl hcb)
  have HGD := Lib.hid (fun (pre : List (List Int)) (nd : Nd) (done : List (List R)) (c : List Int) (hd : DoneB T Z pre done) (hl : pre.length = done.length) (hk : Chk es (db.map Tb.t) pre nd c) (hcb : isIx nd.b done.length = true → atC cols nd.b = atC pre nd.b) => evN_good hx hbd hd hl hk hcb)
  obtain ⟨nd, ncap, rfl, ln1, ln2⟩ := hn.shape
  obtain ⟨ad, cap, rfl, le1, le2⟩ := hl.shape
  obtain ⟨td, tcap, rfl, _, _⟩ := hdb.shape
  obtain ⟨cd, ccap, rfl, _, _⟩ := hc.shape
  have HN := Lib.hid hn
  have HU := Lib.hid hU
  obtain ⟨hl1, _, hl2, _⟩ := hlen
  have HCL := Lib.hid hl1
  have HWD := Lib.hid hwid
  have HL40 := Lib.hid hl2
  obtain ⟨q, hqe⟩ : ∃ q, q = evsQ clsF es db cols ns [] := ⟨_, rfl⟩
  have HQ := Lib.hid hqe
  rw [← hqe]
  clear hn hl hdb hc hU hG hx hT hZ hbd hq hqe hl1 hl2 hwid
  obtain ⟨n, hn⟩ : ∃ n, n = es.length := ⟨_, rfl⟩
  obtain ⟨m, hm⟩ : ∃ m, m = db.length := ⟨_, rfl⟩
  obtain ⟨p, hp⟩ : ∃ p, p = cols.length := ⟨_, rfl⟩
  obtain ⟨r, hr⟩ : ∃ r, r = ns.length := ⟨_, rfl⟩
  have HR := Lib.hid hr
  rw [← hn] at HEV le1 ⊢
  rw [← hm] at HEV ⊢
  rw [← hp] at HEV HCL ⊢
  rw [← hr] at HN HCL HL40 ln1 ⊢
  have HPC := Lib.hid hp
  clear hn hm hp hr
  unfold maxLen at ln2 le2
  obtain ⟨w0, hw0⟩ : ∃ w0, w0 = w.alloc (.cells #[.slice nd r ncap, .slice ad n cap] 26) := ⟨_, rfl⟩
  have HW0 := Lib.hid hw0
  have hb0 : w0.cell? ⟨w.heap.size, 0, none⟩ = some (.slice nd r ncap) := by rw [hw0]; exact al0 _ _ _ _
  have hb1 : w0.cell? ⟨w.heap.size, 1, none⟩ = some (.slice ad n cap) := by rw [hw0]; exact al1 _ _ _ _
  have EX := Lib.hid (show Ext w w0 by rw [hw0]; exact (Ext.refl _).alloc _ _)
  have hsz : w0.heap.size = w.heap.size + 1 := by rw [hw0]; simp
  have HSZ := Lib.hid hsz
  have HBX := Lib.hid (show Bxn (w.heap.size + 1) [.slice ad n cap, .slice td m tcap, .slice cd p ccap, .slice none 0 0] (w0.alloc (.cells #[.slice ad n cap, .slice td m tcap, .slice cd p ccap, .slice none 0 0] 111)) by rw [← hsz]; exact Bxn.new w0 _ _)
  have HD0 := Lib.hid (show DoneB T Z (cols.take 0) [] from fun i hi => by have := (isIx_iff _ _).1 hi; simp at this; omega)
  clear hw0 hsz
  go_enter Tryz.func29, Tryz.ntmps29
  go_wp2_with fail
  rw [← HW0.out]
  go_loopw [20] (EvNR S w0 (w.heap.size + 1) T Z es db cols ns (.slice ad n cap) (.slice td m tcap) (.slice cd p ccap)) (fun i _ => r - (intOf i).toNat)
  case atStart => exact ⟨0, [], .slice none 0 0, Nat.zero_le _, rfl, rfl, by rw [List.drop_zero], OwnS.nil _ _ _ _ _ ((Ext.refl _).alloc _ _), (fun g h => by cases h), HBX.out, HD0.out⟩
  case round =>
    obtain ⟨k, done, vr, hk, rfl, hdl, hcq, hO, hvr, hB, hD⟩ := hrel
    have hkr : k ≤ r := by rw [HR.out]; exact hk
    have hE := hO.old
    have f0 := hE.keeps hb0
    have f1 := hE.keeps hb1
    have HEw := Lib.hid (EX.out.trans hE)
    obtain ⟨va, vcap, rfl, hv1, hv2⟩ := hO.rd.shape
    rw [hdl] at hv1 hO hvr hB
    have c0 := (hB.2 0 _ rfl).1
    have c1 := (hB.2 1 _ rfl).1
    have c2 := (hB.2 2 _ rfl).1
    have c3 := (hB.2 3 _ rfl).1
    have hsb := hB.1
    have s0 : w.heap.size < wr.heap.size := by omega
    have HB := Lib.hid hB
    have HO := Lib.hid hO
    have HVR := Lib.hid hvr
    have HDL := Lib.hid hdl
    have HD := Lib.hid hD
    have HCQ := Lib.hid hcq
    clear hB hO hvr hdl hD hcq hE
    unfold maxLen at hv2
    by_cases hlt : k < r
    · have hlt' : k < ns.length := by rw [← HR.out]; exact hlt
      obtain ⟨g, o, h, rfl, hc, hx⟩ := rd_Nd HN.out k hlt'
      obtain ⟨cc, hchk, hcc⟩ := HCH.out k hlt'
      have hdrop : ns.drop k = ns[k] :: ns.drop (k + 1) := List.drop_eq_getElem_cons hlt'
      generalize ns[k] = x at *
      obtain ⟨xa, xn, xc, xb, xm, xd⟩ := h
      obtain ⟨nk, na, nb, np, nsx, ex, ag⟩ := x
      have d0 := HEw.out.keeps (hc 0 _ rfl)
      have d1 := HEw.out.keeps (hc 1 _ rfl)
      have d2 := HEw.out.keeps (hc 2 _ rfl)
      have d3 := HEw.out.keeps (hc 3 _ rfl)
      have d4 := HEw.out.keeps (hc 4 _ rfl)
      have d5 := HEw.out.keeps (hc 5 _ rfl)
      have d6 := HEw.out.keeps (hc 6 _ rfl)
      simp only [Nat.add_zero] at d0 d1 d2 d3 d4 d5 d6
      have hpl : (cols.take k).length = done.length := by rw [List.length_take, HDL.out, ← HPC.out, HCL.out]; omega
      have hatc : ∀ i, isIx i done.length = true → atC cols i = atC (cols.take k) i := fun i hi => by
        have := (isIx_iff _ _).1 hi
        rw [HDL.out] at this
        exact (atC_take cols k i (by omega)).symm
      have hstep := evsQ_step es db cols ⟨nk, na, nb, np, nsx, ex, ag⟩ (ns.drop (k + 1)) done
      have hev := fun w' (hE : Ext wr w') => HEV.out (fun g => (S g ∧ g ≠ w.heap.size + 1) ∧ some g ≠ (Value.slice va k vcap).ownBlock) (cols.take k) done ⟨nk, na, nb, np, nsx, ex, ag⟩ ⟨xa, xn, xc, xb, xm, xd⟩ cc _ w' (HEw.out.trans hE)
        (fun g hg hs => ⟨⟨hs, by omega⟩, (HO.out.avoid g (by have := HSZ.out; omega) ⟨hs, by omega⟩).2⟩)
        ((HO.out.up (fun g hg => ⟨(HU.out.ext HEw.out) g hg, by omega⟩)).ext hE) ((HO.out.rd.ext rdR_ok) hE) ⟨hx.1.ext (HEw.out.trans hE), hx.2.ext (HEw.out.trans hE)⟩ HD.out hpl hchk (fun c hc => HWD.out c (List.mem_of_mem_take hc)) (by rw [HDL.out, HCL.out]; omega) hatc
      have hgd := HGD.out (cols.take k) ⟨nk, na, nb, np, nsx, ex, ag⟩ done cc HD.out hpl hchk (hatc nb)
      have HDR := Lib.hid hdrop
      generalize evN clsF es db cols ⟨nk, na, nb, np, nsx, ex, ag⟩ done = z at hev hstep hgd
      have HEV1 := Lib.hid hev
      have HGD1 := Lib.hid hgd
      have HCC := Lib.hid hcc
      have HE1 := Lib.hid (show Ext wr (wr.alloc (.cells #[.int .i64 nk, .int .i64 na, .int .i64 nb, .int .i64 np, sv nsx, .slice xa xn xc, .slice xb xm xd] 45)) from (Ext.refl wr).alloc _ _)
      clear hev hgd hx hc hdrop hcc hchk hatc hpl
      by_cases hbig : 4096 < z.length
      · rw [if_pos hbig] at hstep
        have HST := Lib.hid (show q = ([], 12) by rw [HQ.out, HCQ.out, HDR.out, hstep])
        clear hstep
        go_wp2_with fail
        refine (HEV1.out _ HE1.out).mono ?_; rintro e w2 ⟨v, m2, rfl, hri, hE2, hm2⟩
        have hbig2 : 4096 < m2.length := by
          rcases hm2 with rfl | hm2
          · exact hbig
          · exact hm2.1
        obtain ⟨za, zc, rfl⟩ := rdR_ok.shape hri
        obtain ⟨zn, hzn⟩ : ∃ zn, zn = m2.length := ⟨_, rfl⟩
        rw [← hzn] at hbig2 ⊢
        have hb3 : (4096 : Int) < (zn : Int) := by omega
        have HEE := Lib.hid (HEw.out.trans (HE1.out.trans hE2))
        clear hri hm2 hzn hbig hE2
        go_wp2_with fail
        go_ret2
        exact EqP.err S HST.out HEE.out
      · rw [if_neg hbig] at hstep
        have HST := Lib.hid hstep
        clear hstep
        go_wp2_with fail
        refine (HEV1.out _ HE1.out).mono ?_; rintro e w2 ⟨v, m2, rfl, hri, hE2', hm2⟩
        obtain rfl : m2 = z := by
          rcases hm2 with rfl | hm2
          · rfl
          · exact absurd hm2.2 hbig
        obtain ⟨za, zp, rfl⟩ := rdR_ok.shape hri
        have hE2 := HE1.out.trans hE2'
        have HZL := Lib.hid (show m2.length ≤ 4096 by omega)
        obtain ⟨zn, hzn⟩ : ∃ zn, zn = m2.length := ⟨_, rfl⟩
        rw [← hzn] at hri hbig ⊢
        have hb3 : ¬ (4096 : Int) < (zn : Int) := by omega
        have HB2 := Lib.hid (HB.out.ext hE2)
        have b3 := (HB2.out.2 3 _ rfl).1
        have b3f := (HB2.out.2 3 _ rfl).2
        have s2 := HB2.out.1
        obtain ⟨qs, hq1, hq2, hq3⟩ := HO.out
        have HL3 := Lib.hid (show Ext wr (w2.alloc (.cells #[.slice za zn zp] 28)) from hE2.alloc _ _)
        have HQ1 := Lib.hid (hq1.ext HL3.out)
        have HQ2 := Lib.hid (fun p hp => rdR_ok.ext (hq2 p hp) HL3.out)
        have HRI := Lib.hid (rdR_ok.ext hri ((Ext.refl w2).alloc #[.slice za zn zp] 28))
        have HQL := Lib.hid (show qs.length ≤ 1000000 by have e1 := congrArg List.length hq3; rw [List.length_map, HDL.out] at e1; have := HL40.out; omega)
        have HQ3 := Lib.hid hq3
        have HE2 := Lib.hid hE2
        clear hq1 hq2 hq3 hri hE2 hE2' hm2 hbig hzn c0 c1 c2 c3
        go_wp2_with (at_builtin; refine appGL tL rfl _ _ rfl w0 _ qs rfl HQ1.out _ [⟨za, zn, zp, m2⟩] rfl (rd_litG w2 [(⟨za, zn, zp, m2⟩ : Sl R)] #[.slice za zn zp] 28 _ 1 rfl rfl (by simp) rfl) (by have := HQL.out; simp; omega) ?_; intro v' w' hO' hg' hl'; obtain ⟨va', ln', vcap', rfl⟩ : ∃ va' ln' vcap', v' = .slice va' ln' vcap' := (by obtain ⟨a, b, e, _⟩ := hO'.rd.shape; exact ⟨a, _, b, e⟩); have hBx := (HB2.out.ext ((Ext.refl w2).alloc #[.slice za zn zp] 28)).out hg' HVR.out; have g2 := (hBx.2 3 _ rfl).1; have g2f := (hBx.2 3 _ rfl).2; have gs := hBx.1; have HBx := Lib.hid hBx; clear hBx)
        go_roundw
        case rel =>
          refine ⟨k + 1, done ++ [m2], .slice va' ln' vcap', hlt', by go_num, by rw [List.length_append, HDL.out]; rfl, ?_, ?_, ?_, HBx.out.set 3 _, ?_⟩
          · rw [HCQ.out, HDR.out, HST.out]
          · have hm := OwnS.more (S := fun g => S g ∧ g ≠ w.heap.size + 1) rdR_ok (q := (⟨za, zn, zp, m2⟩ : Sl R)) HQ2.out HRI.out hO' hg' hl'
            rw [HQ3.out] at hm
            refine hm.grw rdR_ok (set_grw _ _ _ _) (by have := HSZ.out; omega) ?_ (fun g hg => hg.2)
            intro g hg
            rcases hl' with hl' | ⟨g', hg2, hle⟩
            · exact HVR.out g (by have e := hl'.symm.trans hg; exact e)
            · rw [hg2] at hg; injection hg with hg; subst hg
              simp at hle; omega
          · intro g hg
            rcases hl' with hl' | ⟨g', hg2, hle⟩
            · exact HVR.out g (by have e := hl'.symm.trans hg; exact e)
            · rw [hg2] at hg; injection hg with hg; subst hg
              simp at hle; omega
          · have hds := done_step (l := m2) (c := cc) (by rw [HDL.out]; exact HD.out) (by rw [HDL.out]; exact HCC.out) HZL.out HGD1.out
            rw [HDL.out] at hds; exact hds
        case measure => simp [intOf]; omega
    · have hke : ns.drop k = [] := List.drop_of_length_le (by have := HR.out; omega)
      have HST := Lib.hid (show q = (done, 0) by rw [HQ.out, HCQ.out, hke]; rfl)
      clear hke
      go_wp2_with fail
      go_ret2
      rw [HST.out]
      exact ⟨_, rfl, HO.out.rd.mono rdR_ok (fun g _ hs => hs.1.1), HEw.out⟩
end Go.Proofs.YtbplapkcleipiaaGreatDoor
/- Evaluating a query, of the program: Eval. -/
namespace Go.Proofs.YtbplapkcleipiaaGreatDoor
open Go.ChangeShapes Go.WideShapes Go.ChangeAt Go.RowKit

theorem evs_good {T : Nat} {Z : List Int} {es : List X} {db : List Tb} {cols : List (List Int)} (hx : GoodX T es) (hbd : ∀ tb ∈ db, RowsB T Z 6 tb.l) : ∀ (l : List Nd) (done : List (List R)), DoneB T Z (cols.take done.length) done → done.length ≤ cols.length →
    (∀ k (h : k < l.length), ∃ c, Chk es (db.map Tb.t) (cols.take (done.length + k)) l[k] c ∧ cols[done.length + k]? = some c) → (evsQ clsF es db cols l done).2 = 0 →
    (evsQ clsF es db cols l done).1.length = done.length + l.length ∧ DoneB T Z (cols.take (done.length + l.length)) (evsQ clsF es db cols l done).1
  | [], done, hd, _, _, _ => ⟨by simp [evsQ], by simpa [evsQ] using hd⟩
  | n :: l, done, hd, hl, hk, h0 => by
    rw [evsQ_step] at h0 ⊢
    by_cases hb : 4096 < (evN clsF es db cols n done).length
    · rw [if_pos hb] at h0; exact absurd h0 (by decide)
    rw [if_neg hb] at h0 ⊢
    obtain ⟨c, c1, c2⟩ := hk 0 (by simp)
    simp only [List.getElem_cons_zero, Nat.add_zero] at c1 c2
    have hlt : done.length < cols.length := (List.getElem?_eq_some_iff.1 c2).1
    have hg := evN_good (cols := cols) hx hbd hd (by rw [List.length_take]; omega) c1 (fun hi => by
      have := (isIx_iff _ _).1 hi
      exact (atC_take cols _ _ (by omega)).symm)
    have hs := done_step hd c2 (by omega) hg
    obtain ⟨r1, r2⟩ := evs_good hx hbd l (done ++ [evN clsF es db cols n done]) (by rw [List.length_append]; exact hs) (by rw [List.length_append]; simp; omega) (fun k h => by
      obtain ⟨d, d1, d2⟩ := hk (k + 1) (by simpa using h)
      refine ⟨d, ?_, ?_⟩
      · rw [List.length_append, show done.length + [evN clsF es db cols n done].length + k = done.length + (k + 1) by simp; omega]
        exact d1
      · rw [List.length_append, show done.length + [evN clsF es db cols n done].length + k = done.length + (k + 1) by simp; omega]
        exact d2) h0
    rw [List.length_append] at r1 r2
    have e : done.length + [evN clsF es db cols n done].length + l.length = done.length + (n :: l).length := by simp; omega
    rw [e] at r1 r2
    exact ⟨r1, r2⟩
/-- what Eval hands back -/
def EvP (w : World) (c : List R × Int) (e : Ending) (w' : World) : Prop := ∃ v qs, e = .returned (.tuple #[v, .int .i64 c.2]) ∧ RdG w' v qs ∧ RdAll w' qs ∧ rows qs = c.1 ∧ Ext w w'
theorem EvP.err {w w' : World} {c : List R × Int} {n : Int} (h : c = ([], n)) (hE : Ext w w') : EvP w c (.returned (.tuple #[.slice none 0 0, .int .i64 n])) w' := by
  subst h; exact ⟨_, [], rfl, rdG_nil _, fun q hq => (by cases hq), rfl, hE⟩
theorem Arr.putT {e : TypeId} {W w : World} {g : Nat} {l : List TtP} (h : Arr e W w g l) (i : Nat) (x : TtP) (hi : i < l.length) : Arr e W ((w.setCell ⟨g, i * 2, none⟩ (sv x.t.s)).setCell ⟨g, i * 2 + 1, none⟩ x.x) g (l.set i x) := (h.put i x hi).1
def TbR (W : World) (S : Nat → Prop) (w : World) (db : List Tb) (i : Value) (wr : World) : Prop := ∃ (k : Nat) (qs : List TtP), k ≤ db.length ∧ i = .int .i64 k ∧ qs.length = k ∧ Arr tTt.e W wr W.heap.size (fil qs db.length tTt.z) ∧ qs.map TtP.t = (db.map Tb.t).take k ∧ ∀ q ∈ qs, RdI S w q.x q.t.ks
set_option maxHeartbeats 8000000 in
set_option maxRecDepth 100000 in
theorem evQ_prg (S : Nat → Prop) (T : Nat) (Z : List Int) (es : List X) (ns : List Nd) (db : List Tb) (vn ve vd : Value) (w : World) (hn : RdN w vn ns) (hl : RdG w ve es) (hdb : RdB9 S w vd db) (hU : Up S w) (hG : PT w)
    (hx : GoodX T es) (hT : T ≤ 1073741824) (hZ : Z.length ≤ 10000) (hbd : ∀ tb ∈ db, RowsB T Z 6 tb.l) (hs : ∀ n ∈ ns, n.ex.length ≤ 1000000 ∧ n.ag.length ≤ 1000000) (hdl : db.length ≤ 1000000) :
    Calls Tryz.prog 12 #[.agg #[vn, ve], vd] w (EvP w (evQ clsF es db ns)) := by
  have HCQ := Lib.hid (fun vt w' (hE : Ext w w') (ht : RdT S w' vt (db.map Tb.t)) => ckQ_prg S es ns (db.map Tb.t) vn ve vt w' (hn.ext hE) (hl.ext hE) ht (hU.ext hE) hs)
  have HEQ := Lib.hid (fun cols vc w' (hE : Ext w w') (hc : RdS RdI S w' vc cols) (hq : colQ es (db.map Tb.t) ns = (cols, 0)) => evs_prg S T Z es ns db cols vn ve vd vc w' (hn.ext hE) (hl.ext hE) (hdb.ext hE) hc (hU.ext hE) (hG.ext hE) hx hT hZ hbd hq)
  have HGD := Lib.hid (fun cols (hq : colQ es (db.map Tb.t) ns = (cols, 0)) (h0 : (evsQ clsF es db cols ns []).2 = 0) => evs_good (T := T) (Z := Z) (cols := cols) hx hbd ns [] (fun i hi => by have := (isIx_iff _ _).1 hi; simp at this; omega) (Nat.zero_le _) (by simpa using colQ_at hq) h0)
  have HLN := Lib.hid (colQ_len es (db.map Tb.t) ns)
  have HWD := Lib.hid (colQ_wid es (db.map Tb.t) ns)
  obtain ⟨nd, ncap, rfl, ln1, ln2⟩ := hn.shape
  obtain ⟨ad, cap, rfl, le1, le2⟩ := hl.shape
  obtain ⟨td, tcap, rfl, ld1, ld2⟩ := hdb.shape
  have HDB := Lib.hid hdb
  have HU := Lib.hid hU
  have HQ := Lib.hid (show evQ clsF es db ns = if (colQ es (db.map Tb.t) ns).2 ≠ 0 then ([], (colQ es (db.map Tb.t) ns).2) else if (evsQ clsF es db (colQ es (db.map Tb.t) ns).1 ns []).2 ≠ 0 then ([], (evsQ clsF es db (colQ es (db.map Tb.t) ns).1 ns []).2) else (sortR ((evsQ clsF es db (colQ es (db.map Tb.t) ns).1 ns []).1.getLastD []), 0) from rfl)
  have HZ := Lib.hid hZ
  clear hn hl hdb hU hG hx hT hbd hs hZ
  obtain ⟨n, hn⟩ : ∃ n, n = es.length := ⟨_, rfl⟩
  obtain ⟨m, hm⟩ : ∃ m, m = db.length := ⟨_, rfl⟩
  obtain ⟨r, hr⟩ : ∃ r, r = ns.length := ⟨_, rfl⟩
  have HM := Lib.hid hm
  rw [← hn] at HCQ HEQ ⊢
  rw [← hm] at HEQ HDB hdl ld1 ⊢
  rw [← hr] at HCQ HEQ HGD HLN ⊢
  clear hn hm hr ln1 ln2 le1 le2
  unfold maxLen at ld2
  obtain ⟨w0, hw0⟩ : ∃ w0, w0 = w.alloc (.cells #[.slice nd r ncap, .slice ad n cap] 26) := ⟨_, rfl⟩
  have HW0 := Lib.hid hw0
  have EX := Lib.hid (show Ext w w0 by rw [hw0]; exact (Ext.refl _).alloc _ _)
  have hb0 : w0.cell? ⟨w.heap.size, 0, none⟩ = some (.slice nd r ncap) := by rw [hw0]; exact al0 _ _ _ _
  have hb1 : w0.cell? ⟨w.heap.size, 1, none⟩ = some (.slice ad n cap) := by rw [hw0]; exact al1 _ _ _ _
  have hsz : w0.heap.size = w.heap.size + 1 := by rw [hw0]; simp
  have HSZ := Lib.hid hsz
  clear hw0
  go_enter Tryz.func12, Tryz.ntmps12
  go_wp2_with (at_make; rw [← HW0.out]; refine makeG tTt rfl _ _ rfl w0 (Ext.refl _) (m : Int) (m : Int) m rfl rfl rfl rfl (by omega) ?_; intro w1 hA hE1; have HA := Lib.hid hA; clear hA)
  go_loopw [17] (TbR w0 S w db) (fun i _ => m - (intOf i).toNat)
  case atStart =>
    refine ⟨0, [], Nat.zero_le _, rfl, rfl, ?_, rfl, fun q hq => (by cases hq)⟩
    rw [fil_nil, ← HM.out]; exact HA.out
  case round =>
    obtain ⟨k, qs, hk, rfl, hql, hA2, hmap, hrd⟩ := hrel
    have hkm : k ≤ m := by rw [HM.out]; exact hk
    rw [← HM.out] at hA2
    have HEw := Lib.hid (EX.out.trans hA2.2)
    have HRD := Lib.hid hrd
    have HMP := Lib.hid hmap
    have HQL := Lib.hid hql
    have HAA := Lib.hid hA2
    by_cases hlt : k < m
    · have hlt' : k < db.length := by rw [← HM.out]; exact hlt
      obtain ⟨g, o, a, ka, b, kb, rfl, d0', d1', d2', hr1, _⟩ := rd_Tb HDB.out k hlt'
      have d0 := HEw.out.keeps d0'
      have d1 := HEw.out.keeps d1'
      have d2 := HEw.out.keeps d2'
      clear d0' d1' d2'
      have hst : (db.map Tb.t).take (k + 1) = (db.map Tb.t).take k ++ [db[k].t] := by
        rw [List.take_succ_eq_append_getElem (by rw [List.length_map]; exact hlt'), List.getElem_map]
      generalize db[k] = y at *
      obtain ⟨⟨ys, yks⟩, yl⟩ := y
      simp only at d0 d1 d2 hst hr1
      have hfl : (fil qs m tTt.z).length = m := fil_len _ _ _ (by omega)
      have hft : k < (fil qs m tTt.z).length := by omega
      have hz := fil_at qs m k tTt.z hql hlt hft
      have z0 : wr.cell? ⟨w0.heap.size, k * 2, none⟩ = some (sv []) := hA2.cell k 0 (sv []) hft (by rw [hz]; rfl)
      have z1 : wr.cell? ⟨w0.heap.size, k * 2 + 1, none⟩ = some (.slice none 0 0) := hA2.cell k 1 (.slice none 0 0) hft (by rw [hz]; rfl)
      have y0 := hA2.frozen (k * 2)
      have y1 := hA2.frozen (k * 2 + 1)
      have s1 := hA2.lo.2
      obtain ⟨yn, hyn⟩ : ∃ yn, yn = yks.length := ⟨_, rfl⟩
      obtain ⟨yl2, hyl2⟩ : ∃ yl2, yl2 = yl.length := ⟨_, rfl⟩
      rw [← hyn] at d1 hr1
      rw [← hyl2] at d2
      have HST := Lib.hid hst
      have HR1 := Lib.hid hr1
      have HL := Lib.hid hlt'
      have HFT := Lib.hid hft
      have HFS := Lib.hid (fil_set qs m k tTt.z (⟨a, yn, ka, ⟨ys, yks⟩⟩ : TtP) hql hlt)
      clear hst hr1 hyn hyl2 hA2 hfl hft hz hql hmap hrd
      rw [hsz] at z0 z1 y0 y1 s1
      go_wp2_with fail
      go_roundw
      case rel =>
        refine ⟨k + 1, qs ++ [⟨a, yn, ka, ⟨ys, yks⟩⟩], HL.out, by go_num, by rw [List.length_append, HQL.out]; rfl, ?_, ?_, fun q hq => ?_⟩
        · rw [← HM.out, ← HFS.out]
          have h := (HAA.out.putT k ⟨a, yn, ka, ⟨ys, yks⟩⟩ HFT.out)
          have h := h.ext ((Ext.refl _).alloc #[sv ys, .slice a yn ka, .slice b yl2 kb] 73)
          rw [HSZ.out] at h ⊢
          exact h
        · rw [List.map_append, HMP.out, HST.out]; rfl
        · rcases List.mem_append.1 hq with hq | hq
          · exact HRD.out q hq
          · simp only [List.mem_singleton] at hq; subst hq; exact HR1.out
      case measure => simp [intOf]; omega
    · obtain rfl : k = m := by omega
      have hRT : RdT S wr (.slice (some ⟨w0.heap.size, 0, none⟩) k k) (db.map Tb.t) := by
        refine ⟨qs, hA2.rdTake hql (Nat.le_refl _), fun q hq => rdI_ok.ext (hrd q hq) HEw.out, ?_⟩
        rw [hmap]; exact List.take_of_length_le (by rw [List.length_map, ← HM.out]; exact Nat.le_refl _)
      rw [hsz] at hRT
      have HCK := Lib.hid (HCQ.out _ wr HEw.out hRT)
      have f0 := hA2.2.keeps hb0
      have f1 := hA2.2.keeps hb1
      generalize colQ es (db.map Tb.t) ns = cq at HCK HEQ HGD HLN HWD HQ
      obtain ⟨cols, ce⟩ := cq
      have HEX := Lib.hid hA2.2
      clear hRT hA2 hql hmap hrd HRD HMP HQL HAA HCQ hkm hlt
      by_cases he : ce = 0
      · subst he
        have HEQ2 := Lib.hid (fun vc w' hE hc => HEQ.out cols vc w' hE hc rfl)
        have HGD2 := Lib.hid (HGD.out cols rfl)
        obtain ⟨hl1, hl2, hl3, _⟩ := HLN.out rfl
        have HL1 := Lib.hid (show cols.length = r from hl1)
        have HW2 := Lib.hid (show ∀ c ∈ cols, c.length ≤ 64 from HWD.out)
        have hq2 := HQ.out
        rw [if_neg (by simp)] at hq2
        simp only at hq2
        generalize evsQ clsF es db cols ns [] = ys at HEQ2 HGD2 hq2
        obtain ⟨done, de⟩ := ys
        simp only at hq2 HGD2
        clear HEQ HGD HQ HLN HWD hl1
        by_cases hd : de = 0
        · subst hd
          rw [if_neg (by simp)] at hq2
          have HQ2 := Lib.hid hq2
          obtain ⟨g1, g2⟩ := HGD2.out rfl
          simp only [List.length_nil, Nat.zero_add] at g1 g2
          obtain ⟨j, hj⟩ : ∃ j, done.length = j + 1 := ⟨done.length - 1, by omega⟩
          have hjl : j < done.length := by omega
          have hlast : done.getLastD [] = done[j] := by
            cases done with
            | nil => simp at hjl
            | cons x l => simp only [List.length_cons] at hj; simp [List.getLastD, List.getLast_eq_getElem, show l.length = j by omega]
          have hjx := g2 (j : Int) ((isIx_iff _ _).2 (by omega))
          have hat : atL done (j : Int) = done[j] := by simp [atL, List.getD, hjl]
          rw [hat] at hjx
          have hwd : (atC (cols.take r) (j : Int)).length ≤ 64 := by
            rw [atC_take _ _ _ (by omega)]
            unfold atC
            rw [getD_at cols [] _ (by have := HL1.out; omega)]; exact HW2.out _ (List.getElem_mem _)
          have HJX := Lib.hid hjx
          have HWJ := Lib.hid hwd
          have HLST := Lib.hid hlast
          have HJ := Lib.hid hj
          have HJL := Lib.hid hjl
          clear hq2 g1 g2 hjx hat hwd hlast hj hl2 hl3
          go_wp2_with fail
          refine HCK.out.mono ?_; rintro e w2 ⟨vc, rfl, hcr, hE2⟩
          have HE2 := Lib.hid (HEw.out.trans hE2)
          have e0 := hE2.keeps f0
          have e1 := hE2.keeps f1
          obtain ⟨ca, cc, rfl, _, _⟩ := hcr.shape
          have HCR := Lib.hid hcr
          clear hcr hE2 f0 f1
          go_wp2_with fail
          refine (HEQ2.out _ w2 HE2.out HCR.out).mono ?_; rintro e w3 ⟨vr, rfl, hrr, hE3⟩
          have HE3 := Lib.hid (HE2.out.trans hE3)
          have hrr : RdS RdR S w3 vr done := hrr
          obtain ⟨ra, rc, rfl, rl1, rl2⟩ := hrr.shape
          obtain ⟨g, o, xa, xc, rfl, dd, hrow⟩ := hrr.at rdR_ok j HJL.out
          obtain ⟨ps, p1, p2, p3, p4⟩ := hrow
          have hpl : ps.length = done[j].length := (rows_len ps).symm.trans (congrArg List.length p4)
          have HSRT := Lib.hid (sort_prg ps _ w3 p1 (fun p hp => (p3 p hp).1) (by rw [hpl]; have := HJX.out.1; omega) (fun p hp => by
            have hb := HJX.out.2 p.r (by rw [← p4]; exact List.mem_map_of_mem hp)
            have h1 := hb.wd
            have h2 := hb.tl HZ.out
            have := HWJ.out
            exact ⟨by omega, by omega⟩))
          have HP4 := Lib.hid p4
          have HQ3 := Lib.hid (show evQ clsF es db ns = (sortR (rows ps), 0) by rw [HQ2.out, HLST.out, HP4.out])
          simp only [HJ.out] at rl1 ⊢
          unfold maxLen at rl2
          have e3 : ((j + 1 : Nat) : Int) - 1 = (j : Int) := by omega
          have e4 : ((j : Int) + 1) - 1 = (j : Int) := by omega
          generalize done[j] = dj at *
          obtain ⟨dn, hdn⟩ : ∃ dn, dn = dj.length := ⟨_, rfl⟩
          rw [← hdn] at dd HSRT
          clear hrr p1 p2 p3 p4 hpl hdn hE3 HJX HLST
          go_wp2_with fail
          refine HSRT.out.mono ?_; rintro e w4 ⟨v4, qs4, rfl, hr4, ha4, hs4, hE4⟩
          have HS4 := Lib.hid hs4
          have HR4 := Lib.hid hr4
          have HA4 := Lib.hid ha4
          clear hs4 hr4 ha4
          go_wp2_with fail
          go_ret2
          rw [HQ3.out]
          exact ⟨v4, qs4, rfl, HR4.out, HA4.out, HS4.out, HE3.out.trans hE4⟩
        · rw [if_pos (by simpa using hd)] at hq2
          have HQ2 := Lib.hid hq2
          have hd' : (de == 0) = false := by simpa using hd
          clear hq2 hd hl2 hl3
          go_wp2_with fail
          refine HCK.out.mono ?_; rintro e w2 ⟨vc, rfl, hcr, hE2⟩
          have HE2 := Lib.hid (HEw.out.trans hE2)
          have e0 := hE2.keeps f0
          have e1 := hE2.keeps f1
          obtain ⟨ca, cc, rfl, _, _⟩ := hcr.shape
          have HCR := Lib.hid hcr
          clear hcr hE2 f0 f1
          go_wp2_with fail
          refine (HEQ2.out _ w2 HE2.out HCR.out).mono ?_; rintro e w3 ⟨vr, rfl, hrr, hE3⟩
          have HE3 := Lib.hid (HE2.out.trans hE3)
          clear hrr hE3
          go_wp2_with fail
          go_ret2
          exact EvP.err HQ2.out HE3.out
      · have hq2 := HQ.out
        rw [if_pos (by simpa using he)] at hq2
        have HQ2 := Lib.hid hq2
        have he' : (ce == 0) = false := by simpa using he
        clear hq2 he
        go_wp2_with fail
        refine HCK.out.mono ?_; rintro e w2 ⟨vc, rfl, hcr, hE2⟩
        have HE2 := Lib.hid (HEw.out.trans hE2)
        clear hcr hE2
        go_wp2_with fail
        go_ret2
        exact EvP.err HQ2.out HE2.out
end Go.Proofs.YtbplapkcleipiaaGreatDoor
/- The laws' tables: Kinds, Types, RowDB. -/
namespace Go.Proofs.YtbplapkcleipiaaGreatDoor
open Go.ChangeShapes Go.WideShapes Go.ChangeAt Go.RowKit

/-- every block -/
def UU : Nat → Prop := fun _ => True
theorem in_UU (u : Value) : In UU u := fun _ _ _ => trivial
theorem up_UU (w : World) : Up UU w := fun _ _ => trivial
def tts : List Tt := [⟨[114], [1, 2]⟩, ⟨[115], [1, 2]⟩]
theorem kinds_prg (w : World) : Calls Tryz.prog 21 #[] w fun e w' => ∃ a c, e = .returned (.slice a 2 c) ∧ RdG w' (.slice a 2 c) ([1, 2] : List Int) ∧ Ext w w' := by
  go_enter Tryz.func21, Tryz.ntmps21
  go_wp2_with fail
  go_ret
  exact ⟨_, _, rfl, rd_litG w ([1, 2] : List Int) #[.int .i64 1, .int .i64 2] 3 _ 2 rfl rfl (by simp) rfl, (Ext.refl _).alloc _ _⟩
theorem types_prg (w : World) : Calls Tryz.prog 31 #[] w fun e w' => ∃ v, e = .returned v ∧ RdT UU w' v tts ∧ Ext w w' := by
  have HK := Lib.hid (fun w => kinds_prg w)
  go_enter Tryz.func31, Tryz.ntmps31
  go_wp2_with fail
  refine (HK.out _).mono ?_; rintro e w1 ⟨a1, c1, rfl, h1, hE1⟩
  go_wp2_with fail
  refine (HK.out _).mono ?_; rintro e w2 ⟨a2, c2, rfl, h2, hE2⟩
  go_wp2_with fail
  go_ret
  refine ⟨_, rfl, ⟨[⟨a1, 2, c1, ⟨[114], [1, 2]⟩⟩, ⟨a2, 2, c2, ⟨[115], [1, 2]⟩⟩], rd_litG w2 ([⟨a1, 2, c1, ⟨[114], [1, 2]⟩⟩, ⟨a2, 2, c2, ⟨[115], [1, 2]⟩⟩] : List TtP) #[sv [114], .slice a1 2 c1, sv [115], .slice a2 2 c2] 71 _ 2 rfl rfl (by simp) rfl, fun q hq => ?_, rfl⟩, (hE1.trans hE2).alloc _ _⟩
  simp only [List.mem_cons, List.not_mem_nil, or_false] at hq
  rcases hq with rfl | rfl
  · exact ⟨(h1.ext hE2).ext ((Ext.refl _).alloc _ _), in_UU _⟩
  · exact ⟨h2.ext ((Ext.refl _).alloc _ _), in_UU _⟩
/-- the two tables with these rows -/
def dbs (a b : List R) : List Tb := [⟨⟨[114], [1, 2]⟩, a⟩, ⟨⟨[115], [1, 2]⟩, b⟩]
set_option maxHeartbeats 4000000 in
set_option maxRecDepth 100000 in
theorem rowdb_prg (la lb : List R) (va vb : Value) (w : World) (ha : RdR UU w va la) (hb : RdR UU w vb lb) : Calls Tryz.prog 13 #[va, vb] w fun e w' => ∃ v, e = .returned v ∧ RdB9 UU w' v (dbs la lb) ∧ Ext w w' := by
  obtain ⟨xa, xc, rfl⟩ := rdR_ok.shape ha
  obtain ⟨ya, yc, rfl⟩ := rdR_ok.shape hb
  have HA := Lib.hid ha
  have HB := Lib.hid hb
  have HT := Lib.hid (fun w => types_prg w)
  clear ha hb
  obtain ⟨n, hn⟩ : ∃ n, n = la.length := ⟨_, rfl⟩
  obtain ⟨m, hm⟩ : ∃ m, m = lb.length := ⟨_, rfl⟩
  rw [← hn] at HA ⊢
  rw [← hm] at HB ⊢
  clear hn hm
  go_enter Tryz.func13, Tryz.ntmps13
  go_wp2_with fail
  refine (HT.out _).mono ?_; rintro e w1 ⟨v, rfl, hT, hE⟩
  obtain ⟨ad, cap, rfl, _, _⟩ := hT.shape
  obtain ⟨g, o, a1, k1, rfl, c0, c1, r1⟩ := rd_Tt hT 0 (by simp [tts])
  obtain ⟨g', o', a2, k2, e', d0, d1, r2⟩ := rd_Tt hT 1 (by simp [tts])
  cases e'
  simp only [tts, List.getElem_cons_zero, List.getElem_cons_succ, List.length_cons, List.length_nil, Nat.zero_add, Nat.zero_mul, Nat.add_zero, Nat.one_mul] at c0 c1 d0 d1 r1 r2 ⊢
  have C0 := Lib.hid c0
  have C1 := Lib.hid c1
  have D0 := Lib.hid d0
  have D1 := Lib.hid d1
  have HE := Lib.hid hE
  have R1 := Lib.hid r1
  have R2 := Lib.hid r2
  clear hT hE r1 r2
  go_wp2_with fail
  go_region_held3 (fun w' => w'.cell? ⟨g, o, none⟩ = some (sv [114]) ∧ w'.cell? ⟨g, o + 1, none⟩ = some (.slice a1 2 k1) ∧ w'.cell? ⟨g, o + 2, none⟩ = some (sv [115]) ∧ w'.cell? ⟨g, o + 2 + 1, none⟩ = some (.slice a2 2 k2)) (first | exact ⟨C0.out, C1.out, D0.out, D1.out⟩ | go_keep) (fail)
  all_goals
    go_wp2_with fail
    go_ret
    have hEx := (Ext.refl w1).alloc #[sv [114], .slice a1 2 k1, .slice xa n xc, sv [115], .slice a2 2 k2, .slice ya m yc] 73
    refine ⟨_, rfl, ⟨[⟨⟨a1, 2, k1, xa, n, xc⟩, ⟨⟨[114], [1, 2]⟩, la⟩⟩, ⟨⟨a2, 2, k2, ya, m, yc⟩, ⟨⟨[115], [1, 2]⟩, lb⟩⟩], rd_litG w1 ([⟨⟨a1, 2, k1, xa, n, xc⟩, ⟨⟨[114], [1, 2]⟩, la⟩⟩, ⟨⟨a2, 2, k2, ya, m, yc⟩, ⟨⟨[115], [1, 2]⟩, lb⟩⟩] : List TbP) #[sv [114], .slice a1 2 k1, .slice xa n xc, sv [115], .slice a2 2 k2, .slice ya m yc] 73 _ 2 rfl rfl (by simp) rfl, fun q hq => ?_, rfl⟩, HE.out.trans hEx⟩
    simp only [List.mem_cons, List.not_mem_nil, or_false] at hq
    rcases hq with rfl | rfl
    · exact ⟨rdI_ok.ext R1.out hEx, rdR_ok.ext HA.out (HE.out.trans hEx)⟩
    · exact ⟨rdI_ok.ext R2.out hEx, rdR_ok.ext HB.out (HE.out.trans hEx)⟩
end Go.Proofs.YtbplapkcleipiaaGreatDoor
