/- Evaluating a query, of the program: evalNodes. -/
import Derived.Test.YtfojeajmonnifaaGreatDoorZz40
namespace Go.Proofs.YtfojeajmonnifaaGreatDoor
open Go.ChangeShapes Go.WideShapes Go.ChangeAt Go.RowKit

theorem colsQ_at (es : List X) (ts : List Tt) (cols : List (List Int)) : ∀ (l : List Nd) (done : List (List Int)), colsQ es ts l done = (cols, 0) → cols.take done.length = done ∧ ∀ k (h : k < l.length), ∃ c, chkN es ts l[k] (cols.take (done.length + k)) = (c, 0) ∧ cols[done.length + k]? = some c
  | [], done, h => by
    injection h with h _; subst h
    exact ⟨by simp, fun k h => by simp at h⟩
  | n :: l, done, h => by
    unfold colsQ at h
    by_cases h1 : (chkN es ts n done).2 ≠ 0
    · rw [if_pos h1] at h; injection h with _ h; exact absurd h h1
    rw [if_neg h1] at h
    obtain ⟨i1, i2⟩ := colsQ_at es ts cols l _ h
    rw [List.length_append] at i1 i2
    simp only [List.length_cons, List.length_nil, Nat.zero_add] at i1 i2
    have hd : cols.take done.length = done := by
      have := congrArg (List.take done.length) i1
      rw [List.take_take, Nat.min_eq_left (by omega)] at this
      rw [this]; simp
    refine ⟨hd, fun k hk => ?_⟩
    cases k with
    | zero =>
      refine ⟨(chkN es ts n done).1, ?_, ?_⟩
      · simp only [List.getElem_cons_zero, Nat.add_zero, hd]
        have h1 : (chkN es ts n done).2 = 0 := by simpa using h1
        rw [← h1]
      · have := congrArg (fun l => l[done.length]?) i1
        simp only [List.getElem?_take, List.getElem?_append_right (Nat.le_refl _), Nat.sub_self, List.getElem?_cons_zero] at this
        rw [if_pos (by omega)] at this
        simpa using this
    | succ k =>
      obtain ⟨c, c1, c2⟩ := i2 k (by simpa using hk)
      exact ⟨c, by rw [List.getElem_cons_succ, show done.length + (k + 1) = done.length + 1 + k by omega]; exact c1, by rw [show done.length + (k + 1) = done.length + 1 + k by omega]; exact c2⟩
theorem colQ_at {es : List X} {ts : List Tt} {cols : List (List Int)} {l : List Nd} (h : colQ es ts l = (cols, 0)) : ∀ k (h : k < l.length), ∃ c, Chk es ts (cols.take k) l[k] c ∧ cols[k]? = some c := by
  unfold colQ at h
  split at h
  · injection h with _ h; exact absurd h (by decide)
  · obtain ⟨_, h2⟩ := colsQ_at es ts cols l [] h
    intro k hk
    obtain ⟨c, c1, c2⟩ := h2 k hk
    simp only [List.length_nil, Nat.zero_add] at c1 c2
    exact ⟨c, chk_of c1, c2⟩
theorem atC_take (cols : List (List Int)) (k : Nat) (i : Int) (h : i.toNat < k) : atC (cols.take k) i = atC cols i := by
  unfold atC
  simp [List.getD, h]
theorem done_step {T : Nat} {Z : List Int} {cols : List (List Int)} {done : List (List R)} {l : List R} {c : List Int} (h : DoneB T Z (cols.take done.length) done) (hc : cols[done.length]? = some c) (hl : l.length ≤ 4096) (hg : RowsB T Z (6 * c.length) l) : DoneB T Z (cols.take (done.length + 1)) (done ++ [l]) := by
  intro i hi
  have hi' := (isIx_iff _ _).1 hi
  rw [List.length_append] at hi'
  simp only [List.length_cons, List.length_nil] at hi'
  rw [atL_snoc]
  by_cases e : i.toNat = done.length
  · rw [if_pos e]
    refine ⟨hl, ?_⟩
    rw [atC_take _ _ _ (by omega)]
    unfold atC
    rw [List.getD, e, hc]; exact hg
  · rw [if_neg e, atC_take _ _ _ (by omega)]
    have h2 := h i ((isIx_iff _ _).2 (by omega))
    rw [atC_take _ _ _ (by omega)] at h2
    exact h2
theorem evsQ_step (es : List X) (db : List Tb) (cols : List (List Int)) (n : Nd) (l : List Nd) (done : List (List R)) : evsQ clsF es db cols (n :: l) done = if 4096 < (evN clsF es db cols n done).length then ([], 12) else evsQ clsF es db cols l (done ++ [evN clsF es db cols n done]) := rfl
def EvNR (S : Nat → Prop) (W0 : World) (cb : Nat) (T : Nat) (Z : List Int) (es : List X) (db : List Tb) (cols : List (List Int)) (ns : List Nd) (ve vd vc : Value) (i : Value) (wr : World) : Prop :=
  ∃ (k : Nat) (done : List (List R)) (vr : Value), k ≤ ns.length ∧ i = .int .i64 k ∧ done.length = k ∧ evsQ clsF es db cols ns [] = evsQ clsF es db cols (ns.drop k) done ∧ OwnS tL.e RdR (fun g => S g ∧ g ≠ cb) W0 wr vr done ∧ (∀ g, vr.ownBlock = some g → g ≠ cb) ∧ Bxn cb [ve, vd, vc, vr] wr ∧ DoneB T Z (cols.take k) done
/-- what is handed back: the rows of all nodes, an error -/
def EqP (S : Nat → Prop) (w : World) (c : List (List R) × Int) (e : Ending) (w' : World) : Prop := ∃ v, e = .returned (.tuple #[v, .int .i64 c.2]) ∧ RdS RdR S w' v c.1 ∧ Ext w w'
theorem EqP.err (S : Nat → Prop) {w w' : World} {c : List (List R) × Int} {n : Int} (h : c = ([], n)) (hE : Ext w w') : EqP S w c (.returned (.tuple #[.slice none 0 0, .int .i64 n])) w' := by
  subst h; exact ⟨_, rfl, ⟨[], rdG_nil _, fun q hq => (by cases hq), rfl⟩, hE⟩
set_option maxHeartbeats 8000000 in
set_option maxRecDepth 100000 in
theorem evs_prg (S : Nat → Prop) (T : Nat) (Z : List Int) (es : List X) (ns : List Nd) (db : List Tb) (cols : List (List Int)) (vn ve vd vc : Value) (w : World) (hn : RdN w vn ns) (hl : RdG w ve es) (hdb : RdB9 S w vd db) (hc : RdS RdI S w vc cols) (hU : Up S w) (hG : PT w)
    (hx : GoodX T es) (hT : T ≤ 1073741824) (hZ : Z.length ≤ 10000) (hbd : ∀ tb ∈ db, RowsB T Z 6 tb.l) (hq : colQ es (db.map Tb.t) ns = (cols, 0)) :
    Calls Tryz.prog 40 #[.agg #[vn, ve], vd, vc] w (EqP S w (evsQ clsF es db cols ns [])) := by
  have hlen := colQ_len es (db.map Tb.t) ns (by rw [hq])
  rw [hq] at hlen
  simp only at hlen
  have hwid := colQ_wid es (db.map Tb.t) ns
  rw [hq] at hwid
  simp only at hwid
  have HCH := Lib.hid (colQ_at hq)
  have HEV := Lib.hid (fun (S' : Nat → Prop) (pre : List (List Int)) (done : List (List R)) (x : Nd) (h : Hd) (c : List Int) vr w' (hE : Ext w w') (hS : ∀ g, g < w.heap.size → S g → S' g) (hU' : Up S' w') (hd : RdS RdR S' w' vr done) (hx' : RdNd w' ⟨h, x⟩) (hD : DoneB T Z pre done) (hpl : pre.length = done.length) (hk : Chk es (db.map Tb.t) pre x c) (hw : ∀ c ∈ pre, c.length ≤ 64) (hcl : done.length ≤ cols.length) (hcb : ∀ i, isIx i done.length = true → atC cols i = atC pre i) =>
    evN_prg S' T Z es db cols pre done x h c ve vd vc vr w' (hl.ext hE) ((hdb.mono hS).ext hE) ((hc.mono rdI_ok hS).ext rdI_ok hE) hd hx' hU' (hG.ext hE) (by omega) hx hT hZ hD hpl hk hw hcl hcb)
  have HGD := Lib.hid (fun (pre : List (List Int)) (nd : Nd) (done : List (List R)) (c : List Int) (hd : DoneB T Z pre done) (hl : pre.length = done.length) (hk : Chk es (db.map Tb.t) pre nd c) (hcb : isIx nd.b done.length = true → atC cols nd.b = atC pre nd.b) => evN_good hx hbd hd hl hk hcb)
  obtain ⟨nd, ncap, rfl, ln1, ln2⟩ := hn.shape
  obtain ⟨ad, cap, rfl, le1, le2⟩ := hl.shape
  obtain ⟨td, tcap, rfl, _, _⟩ := hdb.shape
  obtain ⟨cd, ccap, rfl, _, _⟩ := hc.shape
  have HN := Lib.hid hn
  have HU := Lib.hid hU
  obtain ⟨hl1, _, hl2, _⟩ := hlen
  have HCL := Lib.hid hl1
  have HWD := Lib.hid hwid
  have HL40 := Lib.hid hl2
  obtain ⟨q, hqe⟩ : ∃ q, q = evsQ clsF es db cols ns [] := ⟨_, rfl⟩
  have HQ := Lib.hid hqe
  rw [← hqe]
  clear hn hl hdb hc hU hG hx hT hZ hbd hq hqe hl1 hl2 hwid
  obtain ⟨n, hn⟩ : ∃ n, n = es.length := ⟨_, rfl⟩
  obtain ⟨m, hm⟩ : ∃ m, m = db.length := ⟨_, rfl⟩
  obtain ⟨p, hp⟩ : ∃ p, p = cols.length := ⟨_, rfl⟩
  obtain ⟨r, hr⟩ : ∃ r, r = ns.length := ⟨_, rfl⟩
  have HR := Lib.hid hr
  rw [← hn] at HEV le1 ⊢
  rw [← hm] at HEV ⊢
  rw [← hp] at HEV HCL ⊢
  rw [← hr] at HN HCL HL40 ln1 ⊢
  have HPC := Lib.hid hp
  clear hn hm hp hr
  unfold maxLen at ln2 le2
  obtain ⟨w0, hw0⟩ : ∃ w0, w0 = w.alloc (.cells #[.slice nd r ncap, .slice ad n cap] 25) := ⟨_, rfl⟩
  have HW0 := Lib.hid hw0
  have hb0 : w0.cell? ⟨w.heap.size, 0, none⟩ = some (.slice nd r ncap) := by rw [hw0]; exact al0 _ _ _ _
  have hb1 : w0.cell? ⟨w.heap.size, 1, none⟩ = some (.slice ad n cap) := by rw [hw0]; exact al1 _ _ _ _
  have EX := Lib.hid (show Ext w w0 by rw [hw0]; exact (Ext.refl _).alloc _ _)
  have hsz : w0.heap.size = w.heap.size + 1 := by rw [hw0]; simp
  have HSZ := Lib.hid hsz
  have HBX := Lib.hid (show Bxn (w.heap.size + 1) [.slice ad n cap, .slice td m tcap, .slice cd p ccap, .slice none 0 0] (w0.alloc (.cells #[.slice ad n cap, .slice td m tcap, .slice cd p ccap, .slice none 0 0] 124)) by rw [← hsz]; exact Bxn.new w0 _ _)
  have HD0 := Lib.hid (show DoneB T Z (cols.take 0) [] from fun i hi => by have := (isIx_iff _ _).1 hi; simp at this; omega)
  clear hw0 hsz
  go_enter Tryz.func40, Tryz.ntmps40
  go_wp2_with fail
  rw [← HW0.out]
  go_loopw [20] (EvNR S w0 (w.heap.size + 1) T Z es db cols ns (.slice ad n cap) (.slice td m tcap) (.slice cd p ccap)) (fun i _ => r - (intOf i).toNat)
  case atStart => exact ⟨0, [], .slice none 0 0, Nat.zero_le _, rfl, rfl, by rw [List.drop_zero], OwnS.nil _ _ _ _ _ ((Ext.refl _).alloc _ _), (fun g h => by cases h), HBX.out, HD0.out⟩
  case round =>
    obtain ⟨k, done, vr, hk, rfl, hdl, hcq, hO, hvr, hB, hD⟩ := hrel
    have hkr : k ≤ r := by rw [HR.out]; exact hk
    have hE := hO.old
    have f0 := hE.keeps hb0
    have f1 := hE.keeps hb1
    have HEw := Lib.hid (EX.out.trans hE)
    obtain ⟨va, vcap, rfl, hv1, hv2⟩ := hO.rd.shape
    rw [hdl] at hv1 hO hvr hB
    have c0 := (hB.2 0 _ rfl).1
    have c1 := (hB.2 1 _ rfl).1
    have c2 := (hB.2 2 _ rfl).1
    have c3 := (hB.2 3 _ rfl).1
    have hsb := hB.1
    have s0 : w.heap.size < wr.heap.size := by omega
    have HB := Lib.hid hB
    have HO := Lib.hid hO
    have HVR := Lib.hid hvr
    have HDL := Lib.hid hdl
    have HD := Lib.hid hD
    have HCQ := Lib.hid hcq
    clear hB hO hvr hdl hD hcq hE
    unfold maxLen at hv2
    by_cases hlt : k < r
    · have hlt' : k < ns.length := by rw [← HR.out]; exact hlt
      obtain ⟨g, o, h, rfl, hc, hx⟩ := rd_Nd HN.out k hlt'
      obtain ⟨cc, hchk, hcc⟩ := HCH.out k hlt'
      have hdrop : ns.drop k = ns[k] :: ns.drop (k + 1) := List.drop_eq_getElem_cons hlt'
      generalize ns[k] = x at *
      obtain ⟨xa, xn, xc, xb, xm, xd⟩ := h
      obtain ⟨nk, na, nb, np, nsx, ex, ag⟩ := x
      have d0 := HEw.out.keeps (hc 0 _ rfl)
      have d1 := HEw.out.keeps (hc 1 _ rfl)
      have d2 := HEw.out.keeps (hc 2 _ rfl)
      have d3 := HEw.out.keeps (hc 3 _ rfl)
      have d4 := HEw.out.keeps (hc 4 _ rfl)
      have d5 := HEw.out.keeps (hc 5 _ rfl)
      have d6 := HEw.out.keeps (hc 6 _ rfl)
      simp only [Nat.add_zero] at d0 d1 d2 d3 d4 d5 d6
      have hpl : (cols.take k).length = done.length := by rw [List.length_take, HDL.out, ← HPC.out, HCL.out]; omega
      have hatc : ∀ i, isIx i done.length = true → atC cols i = atC (cols.take k) i := fun i hi => by
        have := (isIx_iff _ _).1 hi
        rw [HDL.out] at this
        exact (atC_take cols k i (by omega)).symm
      have hstep := evsQ_step es db cols ⟨nk, na, nb, np, nsx, ex, ag⟩ (ns.drop (k + 1)) done
      have hev := fun w' (hE : Ext wr w') => HEV.out (fun g => (S g ∧ g ≠ w.heap.size + 1) ∧ some g ≠ (Value.slice va k vcap).ownBlock) (cols.take k) done ⟨nk, na, nb, np, nsx, ex, ag⟩ ⟨xa, xn, xc, xb, xm, xd⟩ cc _ w' (HEw.out.trans hE)
        (fun g hg hs => ⟨⟨hs, by omega⟩, (HO.out.avoid g (by have := HSZ.out; omega) ⟨hs, by omega⟩).2⟩)
        ((HO.out.up (fun g hg => ⟨(HU.out.ext HEw.out) g hg, by omega⟩)).ext hE) ((HO.out.rd.ext rdR_ok) hE) ⟨hx.1.ext (HEw.out.trans hE), hx.2.ext (HEw.out.trans hE)⟩ HD.out hpl hchk (fun c hc => HWD.out c (List.mem_of_mem_take hc)) (by rw [HDL.out, HCL.out]; omega) hatc
      have hgd := HGD.out (cols.take k) ⟨nk, na, nb, np, nsx, ex, ag⟩ done cc HD.out hpl hchk (hatc nb)
      have HDR := Lib.hid hdrop
      generalize evN clsF es db cols ⟨nk, na, nb, np, nsx, ex, ag⟩ done = z at hev hstep hgd
      have HEV1 := Lib.hid hev
      have HGD1 := Lib.hid hgd
      have HCC := Lib.hid hcc
      have HE1 := Lib.hid (show Ext wr (wr.alloc (.cells #[.int .i64 nk, .int .i64 na, .int .i64 nb, .int .i64 np, sv nsx, .slice xa xn xc, .slice xb xm xd] 61)) from (Ext.refl wr).alloc _ _)
      clear hev hgd hx hc hdrop hcc hchk hatc hpl
      by_cases hbig : 4096 < z.length
      · rw [if_pos hbig] at hstep
        have HST := Lib.hid (show q = ([], 12) by rw [HQ.out, HCQ.out, HDR.out, hstep])
        clear hstep
        go_wp2_with fail
        refine (HEV1.out _ HE1.out).mono ?_; rintro e w2 ⟨v, m2, rfl, hri, hE2, hm2⟩
        have hbig2 : 4096 < m2.length := by
          rcases hm2 with rfl | hm2
          · exact hbig
          · exact hm2.1
        obtain ⟨za, zc, rfl⟩ := rdR_ok.shape hri
        obtain ⟨zn, hzn⟩ : ∃ zn, zn = m2.length := ⟨_, rfl⟩
        rw [← hzn] at hbig2 ⊢
        have hb3 : (4096 : Int) < (zn : Int) := by omega
        have HEE := Lib.hid (HEw.out.trans (HE1.out.trans hE2))
        clear hri hm2 hzn hbig hE2
        go_wp2_with fail
        go_ret2
        exact EqP.err S HST.out HEE.out
      · rw [if_neg hbig] at hstep
        have HST := Lib.hid hstep
        clear hstep
        go_wp2_with fail
        refine (HEV1.out _ HE1.out).mono ?_; rintro e w2 ⟨v, m2, rfl, hri, hE2', hm2⟩
        obtain rfl : m2 = z := by
          rcases hm2 with rfl | hm2
          · rfl
          · exact absurd hm2.2 hbig
        obtain ⟨za, zp, rfl⟩ := rdR_ok.shape hri
        have hE2 := HE1.out.trans hE2'
        have HZL := Lib.hid (show m2.length ≤ 4096 by omega)
        obtain ⟨zn, hzn⟩ : ∃ zn, zn = m2.length := ⟨_, rfl⟩
        rw [← hzn] at hri hbig ⊢
        have hb3 : ¬ (4096 : Int) < (zn : Int) := by omega
        have HB2 := Lib.hid (HB.out.ext hE2)
        have b3 := (HB2.out.2 3 _ rfl).1
        have b3f := (HB2.out.2 3 _ rfl).2
        have s2 := HB2.out.1
        obtain ⟨qs, hq1, hq2, hq3⟩ := HO.out
        have HL3 := Lib.hid (show Ext wr (w2.alloc (.cells #[.slice za zn zp] 40)) from hE2.alloc _ _)
        have HQ1 := Lib.hid (hq1.ext HL3.out)
        have HQ2 := Lib.hid (fun p hp => rdR_ok.ext (hq2 p hp) HL3.out)
        have HRI := Lib.hid (rdR_ok.ext hri ((Ext.refl w2).alloc #[.slice za zn zp] 40))
        have HQL := Lib.hid (show qs.length ≤ 1000000 by have e1 := congrArg List.length hq3; rw [List.length_map, HDL.out] at e1; have := HL40.out; omega)
        have HQ3 := Lib.hid hq3
        have HE2 := Lib.hid hE2
        clear hq1 hq2 hq3 hri hE2 hE2' hm2 hbig hzn c0 c1 c2 c3
        go_wp2_with (at_builtin; refine appGL tL rfl _ _ rfl w0 _ qs rfl HQ1.out _ [⟨za, zn, zp, m2⟩] rfl (rd_litG w2 [(⟨za, zn, zp, m2⟩ : Sl R)] #[.slice za zn zp] 40 _ 1 rfl rfl (by simp) rfl) (by have := HQL.out; simp; omega) ?_; intro v' w' hO' hg' hl'; obtain ⟨va', ln', vcap', rfl⟩ : ∃ va' ln' vcap', v' = .slice va' ln' vcap' := (by obtain ⟨a, b, e, _⟩ := hO'.rd.shape; exact ⟨a, _, b, e⟩); have hBx := (HB2.out.ext ((Ext.refl w2).alloc #[.slice za zn zp] 40)).out hg' HVR.out; have g2 := (hBx.2 3 _ rfl).1; have g2f := (hBx.2 3 _ rfl).2; have gs := hBx.1; have HBx := Lib.hid hBx; clear hBx)
        go_roundw
        case rel =>
          refine ⟨k + 1, done ++ [m2], .slice va' ln' vcap', hlt', by go_num, by rw [List.length_append, HDL.out]; rfl, ?_, ?_, ?_, HBx.out.set 3 _, ?_⟩
          · rw [HCQ.out, HDR.out, HST.out]
          · have hm := OwnS.more (S := fun g => S g ∧ g ≠ w.heap.size + 1) rdR_ok (q := (⟨za, zn, zp, m2⟩ : Sl R)) HQ2.out HRI.out hO' hg' hl'
            rw [HQ3.out] at hm
            refine hm.grw rdR_ok (set_grw _ _ _ _) (by have := HSZ.out; omega) ?_ (fun g hg => hg.2)
            intro g hg
            rcases hl' with hl' | ⟨g', hg2, hle⟩
            · exact HVR.out g (by have e := hl'.symm.trans hg; exact e)
            · rw [hg2] at hg; injection hg with hg; subst hg
              simp at hle; omega
          · intro g hg
            rcases hl' with hl' | ⟨g', hg2, hle⟩
            · exact HVR.out g (by have e := hl'.symm.trans hg; exact e)
            · rw [hg2] at hg; injection hg with hg; subst hg
              simp at hle; omega
          · have hds := done_step (l := m2) (c := cc) (by rw [HDL.out]; exact HD.out) (by rw [HDL.out]; exact HCC.out) HZL.out HGD1.out
            rw [HDL.out] at hds; exact hds
        case measure => simp [intOf]; omega
    · have hke : ns.drop k = [] := List.drop_of_length_le (by have := HR.out; omega)
      have HST := Lib.hid (show q = (done, 0) by rw [HQ.out, HCQ.out, hke]; rfl)
      clear hke
      go_wp2_with fail
      go_ret2
      rw [HST.out]
      exact ⟨_, rfl, HO.out.rd.mono rdR_ok (fun g _ hs => hs.1.1), HEw.out⟩
end Go.Proofs.YtfojeajmonnifaaGreatDoor
