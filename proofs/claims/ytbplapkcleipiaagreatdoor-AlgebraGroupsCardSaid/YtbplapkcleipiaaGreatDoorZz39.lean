/- Evaluating a query, of the program: joins. -/
import Derived.StillTailTactics
import Derived.Test.YtbplapkcleipiaaGreatDoorZz27
import Derived.Test.YtbplapkcleipiaaGreatDoorZz35
namespace Go.Proofs.YtbplapkcleipiaaGreatDoor
open Go.ChangeShapes Go.WideShapes Go.ChangeAt Go.RowKit

theorem jn_step (es : List X) (p : Int) (left : Bool) (wd : Nat) (a b : List R) (k : Nat) (h : k < a.length) : jnL es p left wd (a.take (k + 1)) b = jnL es p left wd (a.take k) b ++ oneJ es p left wd b a[k] := by
  unfold jnL
  rw [List.take_succ_eq_append_getElem h, List.flatMap_append]
  simp
theorem jn_pre (es : List X) (p : Int) (left : Bool) (wd : Nat) (a b : List R) (k : Nat) : (jnL es p left wd (a.take k) b).length ≤ (jnL es p left wd a b).length := by
  have : jnL es p left wd a b = jnL es p left wd (a.take k) b ++ jnL es p left wd (a.drop k) b := by
    unfold jnL; rw [← List.flatMap_append, List.take_append_drop]
  rw [this, List.length_append]; omega
/-- rows that are handed back, or too many -/
def RoF (S : Nat → Prop) (w : World) (l : List R) (e : Ending) (w' : World) : Prop := ∃ v m, e = .returned v ∧ RdR S w' v m ∧ Ext w w' ∧ (m = l ∨ (4096 < m.length ∧ 4096 < l.length))
def JnR (S : Nat → Prop) (W1 : World) (es : List X) (p : Int) (left : Bool) (wd : Nat) (a b : List R) (v i : Value) (wr : World) : Prop :=
  ∃ k : Nat, k ≤ a.length ∧ i = .int .i64 k ∧ OwnQ S W1 wr v (jnL es p left wd (a.take k) b) ∧ (jnL es p left wd (a.take k) b).length ≤ 4096
set_option maxHeartbeats 16000000 in
set_option maxRecDepth 100000 in
theorem jn_prg (S : Nat → Prop) (es : List X) (nd : Nd) (h : Hd) (cols : List (List Int)) (done : List (List R)) (a2 : Option Addr) (n2 c2 : Nat) (ve vc vr : Value) (w : World) (hl : RdG w ve es) (hc : RdS RdI S w vc cols) (hd : RdS RdR S w vr done) (hU : Up S w)
    (hs : es.length ≤ 1000) (hx : OkX es) (hk : nd.k = 4 ∨ nd.k = 5) (ha : isIx nd.a done.length = true) (hb : isIx nd.b done.length = true) (hcl : isIx nd.b cols.length = true)
    (hoa : OkRs (atL done nd.a)) (hob : OkRs (atL done nd.b)) (hwa : Wid (atL done nd.a)) (hwb : Wid (atL done nd.b)) (hla : (atL done nd.a).length ≤ 1000000) (hlb : (atL done nd.b).length ≤ 1000000) (hwc : (atC cols nd.b).length ≤ 1000) :
    Calls Tryz.prog 68 #[eaV ve (.slice a2 n2 c2) vc vr, ndV ⟨h, nd⟩] w (RoF S w (jnL es nd.p (decide (nd.k = 5)) (atC cols nd.b).length (atL done nd.a) (atL done nd.b))) := by
  have HPA := Lib.hid (fun (B : World) (r : R) a3 n3 c3 a4 n4 c4 va vt vo w' (hE : Ext w w') (hra : RdG w' va r.v) (hrt : RdG w' vt r.t) (hr : RdR S w' vo (atL done nd.b)) (hor : OkR r.v) (hwr : r.v.length ≤ 1000 ∧ r.t.length ≤ 10000000) (hB : Ext B w') =>
    par_prg S B es nd.p r (atL done nd.b) a2 a3 a4 n2 n3 n4 c2 c3 c4 ve va vt vo w' (hl.ext hE) hra hrt hr (hU.ext hE) hs hx hor hob hlb hwr hwb hB)
  obtain ⟨ad, cap, rfl, _, _⟩ := hl.shape
  obtain ⟨cd, ccap, rfl, _, cc2⟩ := hc.shape
  obtain ⟨rd, rcap, rfl, _, rc2⟩ := hd.shape
  obtain ⟨xa, xn, xc, xb, xm, xd⟩ := h
  obtain ⟨nk, na, nb, np, ns, ex, ag⟩ := nd
  simp only at HPA hk ha hb hcl hoa hob hwa hwb hla hlb hwc ⊢
  obtain ⟨ja, rfl⟩ := nat_of ((isIx_iff _ _).1 ha).1
  obtain ⟨jb, rfl⟩ := nat_of ((isIx_iff _ _).1 hb).1
  have hja : ja < done.length := by have := ((isIx_iff _ _).1 ha).2; omega
  have hjb : jb < done.length := by have := ((isIx_iff _ _).1 hb).2; omega
  have hjc : jb < cols.length := by have := ((isIx_iff _ _).1 hcl).2; omega
  obtain ⟨g, o, aa, ac, rfl, da, hra⟩ := hd.at rdR_ok ja hja
  obtain ⟨g', o', ba, bc, e', db, hrb⟩ := hd.at rdR_ok jb hjb
  simp only [Option.some.injEq, Addr.mk.injEq, and_true] at e'
  obtain ⟨rfl, rfl⟩ := e'
  obtain ⟨gc, oc, ca, cc, rfl, dc, _⟩ := hc.at rdI_ok jb hjc
  have ea : atL done (ja : Int) = done[ja] := by simp [atL, List.getD, hja]
  have eb : atL done (jb : Int) = done[jb] := by simp [atL, List.getD, hjb]
  have ec : atC cols (jb : Int) = cols[jb] := by simp [atC, List.getD, hjc]
  rw [ea] at hoa hwa hla ⊢
  rw [eb] at hlb hob hwb HPA ⊢
  rw [ec] at hwc ⊢
  obtain ⟨cn, hcn⟩ : ∃ cn, cn = cols[jb].length := ⟨_, rfl⟩
  rw [← hcn] at dc hwc ⊢
  generalize hLA : done[ja] = LA at *
  generalize hLB : done[jb] = LB at *
  obtain ⟨ps, hp1, _, hp3, hp4⟩ := hra
  obtain ⟨pn, hpn⟩ : ∃ pn, pn = ps.length := ⟨_, rfl⟩
  have hln : LA.length = pn := by rw [← hp4, rows_len, hpn]
  rw [hln] at da hp1 hla
  subst hp4
  have HP := Lib.hid hp1
  have HF := Lib.hid hp3
  have HRB := Lib.hid hrb
  have HU := Lib.hid hU
  have HOA := Lib.hid hoa
  have HWA := Lib.hid hwa
  have HPN := Lib.hid hpn
  obtain ⟨bn, hbn⟩ : ∃ bn, bn = LB.length := ⟨_, rfl⟩
  rw [← hbn] at db HRB
  have hplb : ∀ r, (parL es np r LB).length ≤ 1000000 := fun r => Nat.le_trans (par_len _ _ _ _) hlb
  have HPLB := Lib.hid hplb
  clear hl hc hd hU hs hx ha hb hcl hoa hob hwa hwb hlb hLA hLB hrb hp1 hp3 ea eb ec hcn hln hpn hbn hplb
  obtain ⟨n, hn⟩ : ∃ n, n = es.length := ⟨_, rfl⟩
  obtain ⟨m, hm⟩ : ∃ m, m = cols.length := ⟨_, rfl⟩
  obtain ⟨q, hq⟩ : ∃ q, q = done.length := ⟨_, rfl⟩
  rw [← hn] at HPA ⊢
  rw [← hm] at hjc ⊢
  rw [← hq] at hja hjb ⊢
  clear hn hm hq
  unfold maxLen at cc2 rc2
  obtain ⟨left, hleft⟩ : ∃ left, left = decide (nk = 5) := ⟨_, rfl⟩
  have HLF := Lib.hid hleft
  rw [← hleft]
  clear hleft
  obtain ⟨W1, hW⟩ : ∃ W1, W1 = (w.alloc (.cells #[.slice ad n cap, .slice a2 n2 c2, .slice (some ⟨gc, oc, none⟩) m ccap, .slice (some ⟨g, o, none⟩) q rcap] 111)).alloc (.cells #[.int .i64 nk, .int .i64 (ja : Int), .int .i64 (jb : Int), .int .i64 np, sv ns, .slice xa xn xc, .slice xb xm xd] 45) := ⟨_, rfl⟩
  have HW := Lib.hid (show Ext w W1 by rw [hW]; exact ((Ext.refl _).alloc _ _).alloc _ _)
  have HBX := Lib.hid (show Bxn w.heap.size [.slice ad n cap, .slice a2 n2 c2, .slice (some ⟨gc, oc, none⟩) m ccap, .slice (some ⟨g, o, none⟩) q rcap] W1 by rw [hW]; exact (Bxn.new w _ _).ext ((Ext.refl _).alloc _ _))
  have HBY := Lib.hid (show Bxn (w.heap.size + 1) [.int .i64 nk, .int .i64 (ja : Int), .int .i64 (jb : Int), .int .i64 np, sv ns, .slice xa xn xc, .slice xb xm xd] W1 by rw [hW, ← alsz w]; exact Bxn.new _ _ _)
  have HWS := Lib.hid (show W1.heap.size = w.heap.size + 2 by rw [hW]; simp)
  have i0 := (HBX.out.2 3 _ rfl).1
  have i1 := (HBY.out.2 1 _ rfl).1
  have i2 := HW.out.keeps da
  have hW' := Lib.hid hW
  rw [hW] at i0 i1 i2
  clear hW
  go_enter Tryz.func68, Tryz.ntmps68
  go_wp2_with fail
  rw [← hW'.out]
  go_loopw [5, 17] (JnR S W1 es np left cn (rows ps) LB) (fun _ i _ => pn - (intOf i).toNat)
  case atStart => exact ⟨0, Nat.zero_le _, rfl, OwnQ.nil S (Ext.refl _), by simp [jnL]⟩
  case round =>
    obtain ⟨k, hk2, rfl, hO, hlim⟩ := hrel
    rw [rows_len] at hk2
    have hkt : k ≤ pn := by rw [HPN.out]; exact hk2
    have hEw := Lib.hid (HW.out.trans hO.old)
    by_cases hlt : k < pn
    · have hlt' : k < ps.length := by rw [← HPN.out]; exact hlt
      have hlr : k < (rows ps).length := by rw [rows_len]; exact hlt'
      obtain ⟨ga, oa, rfl, d0', d1'⟩ := rd_P HP.out k hlt'
      have d0 := hEw.out.keeps d0'
      have d1 := hEw.out.keeps d1'
      clear d0' d1'
      have hst := jn_step es np left cn (rows ps) LB k hlr
      have hpre := jn_pre es np left cn (rows ps) LB (k + 1)
      rw [rows_at ps k hlt'] at hst
      have hfi := HF.out ps[k] (List.getElem_mem _)
      have hok := HOA.out ps[k].r (List.mem_map_of_mem (List.getElem_mem _))
      have hwd := HWA.out ps[k].r (List.mem_map_of_mem (List.getElem_mem _))
      generalize ps[k] = y at *
      obtain ⟨⟨ya, yn, yc, yb, ym, yd⟩, yr⟩ := y
      simp only [Hd.x, Hd.y] at d0 d1 hfi hst hok hwd
      obtain ⟨w0, hw0⟩ : ∃ w0, w0 = wr.alloc (.cells #[.slice ya yn yc, .slice yb ym yd] 51) := ⟨_, rfl⟩
      have EX := Lib.hid (show Ext wr w0 by rw [hw0]; exact (Ext.refl wr).alloc _ _)
      have HBx := Lib.hid ((HBX.out.ext hO.old).ext EX.out)
      have HBy := Lib.hid ((HBY.out.ext hO.old).ext EX.out)
      have HBz := Lib.hid (show Bxn wr.heap.size [.slice ya yn yc, .slice yb ym yd] w0 by rw [hw0]; exact Bxn.new _ _ _)
      have x0 := (HBx.out.2 0 _ rfl).1
      have x1 := (HBx.out.2 1 _ rfl).1
      have x2 := (HBx.out.2 2 _ rfl).1
      have x3 := (HBx.out.2 3 _ rfl).1
      have y0 := (HBy.out.2 0 _ rfl).1
      have y2 := (HBy.out.2 2 _ rfl).1
      have y3 := (HBy.out.2 3 _ rfl).1
      have z0 := (HBz.out.2 0 _ rfl).1
      have z1 := (HBz.out.2 1 _ rfl).1
      have b0 := EX.out.keeps (hEw.out.keeps db)
      have HFI := Lib.hid hfi
      have HL := Lib.hid hlt'
      have HST := Lib.hid hst
      have HPRE := Lib.hid hpre
      have HWDX := Lib.hid hwd
      have HLIM := Lib.hid hlim
      have HPC := Lib.hid (fun w' (hE : Ext w0 w') => HPA.out W1 yr (some ⟨gc, oc, none⟩) m ccap (some ⟨g, o, none⟩) q rcap _ _ _ w' (hEw.out.trans (EX.out.trans hE)) (hfi.1.1.ext (hEw.out.trans (EX.out.trans hE))) (hfi.1.2.ext (hEw.out.trans (EX.out.trans hE))) (rdR_ok.ext HRB.out (hEw.out.trans (EX.out.trans hE))) hok hwd (hO.old.trans (EX.out.trans hE)))
      simp only [Hd.x, Hd.y] at HPC
      obtain ⟨js, hj1, hj2, hj3⟩ := hO
      have HJ1 := Lib.hid hj1
      have HJ2 := Lib.hid hj2
      have HJ3 := Lib.hid hj3
      have HJL := Lib.hid (show js.length ≤ 4096 by have e := rows_len js; rw [hj3] at e; omega)
      have HW0 := Lib.hid hw0
      have s0 := HBx.out.1
      have s1 := HBy.out.1
      have s2 := HBz.out.1
      have HPLB1 := Lib.hid (HPLB.out yr)
      clear hfi hok hst hpre hwd hlim hj1 hj2 hj3 hw0
      go_wp2_with fail
      rw [← HW0.out]
      go_still_tail 10, (by kernel_rfl)
      change wpList _ _ _ _ _ w0.drew
      have hdr : Ext w0 w0.drew := (Ext.refl _).drew
      generalize w0.drew = w2 at *
      go_wp2_with fail
      refine (HPC.out _ hdr).mono ?_; rintro e w3 ⟨v3, qs, rfl, hO3, hF3, hR3⟩
      obtain ⟨v3a, v3n, v3c, hv3, hn3⟩ : ∃ v3a v3n v3c, v3 = .slice v3a v3n v3c ∧ v3n = qs.length := by obtain ⟨a, b, e, _⟩ := hO3.rd.shape; exact ⟨a, _, b, e, rfl⟩
      subst hv3
      have E03 := Lib.hid (hdr.trans hO3.2)
      have hl3 : (parL es np yr LB).length = qs.length := by rw [← hR3, rows_len]
      have hqs : qs.length ≤ 1000000 := by rw [← hl3]; exact HPLB1.out
      have u0 := ((HBy.out.ext E03.out).2 0 _ rfl).1
      have u2 := ((HBy.out.ext E03.out).2 2 _ rfl).1
      have t2 := ((HBx.out.ext E03.out).2 2 _ rfl).1
      have c0 := (EX.out.trans E03.out).keeps (hEw.out.keeps dc)
      have r0 := ((HBz.out.ext E03.out).2 0 _ rfl).1
      have r1 := ((HBz.out.ext E03.out).2 1 _ rfl).1
      have g0 := (HBx.out.ext E03.out).1
      have g1 := (HBy.out.ext E03.out).1
      have g2 := (HBz.out.ext E03.out).1
      have HO3 := Lib.hid hO3
      have HF3 := Lib.hid hF3
      have HR3 := Lib.hid hR3
      have HN3 := Lib.hid hn3
      have HL3 := Lib.hid hl3
      have HQS := Lib.hid hqs
      clear hO3 hF3 hR3 hl3 hdr x0 x1 x2 x3 y0 y2 y3 z0 z1 b0
      by_cases h0 : qs.length = 0
      · have h0' : v3n = 0 := by omega
        have HONEA := Lib.hid (show left = true → oneJ es np left cn LB yr = [padL cn yr] from fun hl => by unfold oneJ; rw [if_pos ⟨by rw [HL3.out]; exact h0, hl⟩])
        have HONEB := Lib.hid (show left = false → oneJ es np left cn LB yr = parL es np yr LB from fun hl => by unfold oneJ; rw [if_neg (by rw [hl]; simp)])
        have HH0 := Lib.hid h0
        subst h0'
        clear h0 hn3
        by_cases h5 : nk = 5
        · subst h5
          have HONE := Lib.hid (HONEA.out (by rw [HLF.out]; simp))
          clear HONEA HONEB
          go_wp2_with (at_make; refine makeG tV rfl _ _ rfl w3 (Ext.refl _) (cn : Int) (cn : Int) cn rfl rfl rfl rfl (by omega) ?_; intro w4 hA hE4; have f0 := hE4.keeps r0; have f1 := hE4.keeps r1; have s4 : wr.heap.size < w4.heap.size := World.block_lt_of_cell? _ _ f0; have HA := Lib.hid hA; have HE4 := Lib.hid hE4; clear hA hE4)
          have K0 := Lib.hid f0
          have K1 := Lib.hid f1
          have HRN := Lib.hid (show RdG w4 (.slice (some ⟨w3.heap.size, 0, none⟩) cn cn) (List.replicate cn nul) by have h := HA.out.rd; rw [List.length_replicate] at h; exact h)
          have HEW4 := Lib.hid (hEw.out.trans (EX.out.trans (E03.out.trans HE4.out)))
          have HCC := Lib.hid (fun (X : World) (hE : Ext w4 X) (b : Nat) g0 g1 => (concat_V yr.v (List.replicate cn nul) (.slice ya yn yc) (.slice (some ⟨w3.heap.size, 0, none⟩) cn cn) b X (HFI.out.1.1.ext (HEW4.out.trans hE)) (HRN.out.ext hE) g0 g1 (by rw [List.length_replicate]; have := HWDX.out.1; omega)).mono (R' := fun e w'' => ∃ v, e = .returned v ∧ OwnG tV.e w4 w'' v (yr.v ++ List.replicate cn nul) ∧ Ext w4 w'') (by rintro _ _ ⟨v, rfl, hO⟩; exact ⟨v, rfl, hO.base hE, hE.trans hO.2⟩))
          go_region_held3 (fun w' => w'.cell? ⟨wr.heap.size, 0, none⟩ = some (.slice ya yn yc) ∧ w'.cell? ⟨wr.heap.size, 1, none⟩ = some (.slice yb ym yd))
            (first | exact ⟨K0.out, K1.out⟩ | exact ⟨h0, h1⟩ | go_keep)
            (first
              | (go_at_call 99; refine (HCC.out _ ?x1 _ ?x2 ?x3).mono ?_; (case x1 => first | exact (Ext.refl _).alloc _ _ | exact ((Ext.refl _).drew).alloc _ _); (case x2 => exact al0 _ _ _ _); (case x3 => exact al1 _ _ _ _); rintro e w5 ⟨v5, rfl, hO5, e5⟩; obtain ⟨v5a, v5n, v5c, hv5⟩ : ∃ v5a v5n v5c, v5 = .slice v5a v5n v5c := (by obtain ⟨a, b, e, _⟩ := hO5.rd.shape; exact ⟨a, _, b, e⟩); subst hv5; have h0 := e5.keeps K0.out; have h1 := e5.keeps K1.out; have HO5 := Lib.hid hO5; have HE5 := Lib.hid e5; clear hO5 e5))
          all_goals
            have hx1 := (Ext.refl w5).alloc #[.slice v5a v5n v5c, .slice yb ym yd] 51
            have hx3 := HE4.out.trans (HE5.out.trans hx1)
            have HX := Lib.hid (EX.out.trans (E03.out.trans hx3))
            have HNEW := Lib.hid (show Fine S W1 (w5.alloc (.cells #[.slice v5a v5n v5c, .slice yb ym yd] 51)) (⟨⟨v5a, v5n, v5c, yb, ym, yd⟩, padL cn yr⟩ : P) from
              ⟨⟨⟨HO5.out.rd.ext hx1, HFI.out.1.2.ext (HEW4.out.trans (HE5.out.trans hx1))⟩, (HO5.out.ext hx1).off (by decide), off_old (HFI.out.1.2.ext HW.out)⟩, HO5.out.inn (HU.out.ext HEW4.out), HFI.out.2.2⟩)
            have HLIT := Lib.hid (rd_litG w5 [(⟨⟨v5a, v5n, v5c, yb, ym, yd⟩, padL cn yr⟩ : P)] #[.slice v5a v5n v5c, .slice yb ym yd] 51 w5.heap.size 1 rfl rfl (by simp) rfl)
            clear hx1 hx3
            rcases Nat.lt_or_ge 4096 (js.length + 1) with hbig | hbig
            · have HBIG := Lib.hid (show 4096 < js.length + ([(⟨⟨v5a, v5n, v5c, yb, ym, yd⟩, padL cn yr⟩ : P)]).length by omega)
              clear hbig
              go_wp2_with (at_builtin; refine appG tP rfl _ _ rfl W1 _ js rfl (HJ1.out.ext HX.out) _ [(⟨⟨v5a, v5n, v5c, yb, ym, yd⟩, padL cn yr⟩ : P)] rfl HLIT.out (by have := HJL.out; simp; omega) ?_; intro v' w' hO' hg'; obtain ⟨va', ln', vc', hv', hln'⟩ : ∃ va' ln' vc', v' = .slice va' ln' vc' ∧ ln' = (js ++ [(⟨⟨v5a, v5n, v5c, yb, ym, yd⟩, padL cn yr⟩ : P)]).length := (by obtain ⟨a, b, e, _⟩ := hO'.rd.shape; exact ⟨a, _, b, e, rfl⟩); subst hv'; rw [List.length_append] at hln'; have hcmp : (4096 : Int) < (ln' : Int) := (by have := HBIG.out; omega); have HLN := Lib.hid hln'; clear hln')
              go_ret
              have hfin : OwnQ S W1 w' (.slice va' ln' vc') (jnL es np left cn ((rows ps).take (k + 1)) LB) := by
                rw [HST.out, HONE.out]
                exact OwnQ.app (HJ1.out.ext HX.out) (fun p hp => (HJ2.out p hp).ext HX.out) HJ3.out (fun p hp => by simp only [List.mem_singleton] at hp; subst hp; exact HNEW.out) hO' hg'
              have hlen : (jnL es np left cn ((rows ps).take (k + 1)) LB).length = js.length + ([(⟨⟨v5a, v5n, v5c, yb, ym, yd⟩, padL cn yr⟩ : P)]).length := by
                rw [HST.out, HONE.out, List.length_append, ← HJ3.out, rows_len]; rfl
              obtain ⟨v9, hv9, hr9, he9⟩ := hfin.base HW.out (HU.out.ext HW.out)
              subst hv9
              exact ⟨_, _, rfl, hr9, he9, .inr ⟨by rw [hlen]; exact HBIG.out, by have := HPRE.out; rw [hlen] at this; have := HBIG.out; omega⟩⟩
            · have HBIG := Lib.hid (show js.length + ([(⟨⟨v5a, v5n, v5c, yb, ym, yd⟩, padL cn yr⟩ : P)]).length ≤ 4096 by omega)
              clear hbig
              go_wp2_with (at_builtin; refine appG tP rfl _ _ rfl W1 _ js rfl (HJ1.out.ext HX.out) _ [(⟨⟨v5a, v5n, v5c, yb, ym, yd⟩, padL cn yr⟩ : P)] rfl HLIT.out (by have := HJL.out; simp; omega) ?_; intro v' w' hO' hg'; obtain ⟨va', ln', vc', hv', hln'⟩ : ∃ va' ln' vc', v' = .slice va' ln' vc' ∧ ln' = (js ++ [(⟨⟨v5a, v5n, v5c, yb, ym, yd⟩, padL cn yr⟩ : P)]).length := (by obtain ⟨a, b, e, _⟩ := hO'.rd.shape; exact ⟨a, _, b, e, rfl⟩); subst hv'; rw [List.length_append] at hln'; have hcmp : (ln' : Int) ≤ 4096 := (by have := HBIG.out; omega); have HLN := Lib.hid hln'; clear hln')
              go_roundw
              case rel =>
                have hfin : OwnQ S W1 w' (.slice va' ln' vc') (jnL es np left cn ((rows ps).take (k + 1)) LB) := by
                  rw [HST.out, HONE.out]
                  exact OwnQ.app (HJ1.out.ext HX.out) (fun p hp => (HJ2.out p hp).ext HX.out) HJ3.out (fun p hp => by simp only [List.mem_singleton] at hp; subst hp; exact HNEW.out) hO' hg'
                have hlen : (jnL es np left cn ((rows ps).take (k + 1)) LB).length = js.length + ([(⟨⟨v5a, v5n, v5c, yb, ym, yd⟩, padL cn yr⟩ : P)]).length := by
                  rw [HST.out, HONE.out, List.length_append, ← HJ3.out, rows_len]; rfl
                exact ⟨k + 1, by rw [rows_len]; exact HL.out, by go_num, hfin, by rw [hlen]; exact HBIG.out⟩
              case measure => simp [intOf]; omega
        · have HONE := Lib.hid (HONEB.out (by rw [HLF.out]; simp [h5]))
          have h5' : (nk == 5) = false := by simpa using h5
          clear HONEA HONEB h5
          rcases Nat.lt_or_ge 4096 (js.length + qs.length) with hbig | hbig
          · have HBIG := Lib.hid (show 4096 < js.length + (qs).length by omega)
            clear hbig
            go_wp2_with (at_builtin; refine appG tP rfl _ _ rfl W1 _ js rfl (HJ1.out.ext (EX.out.trans E03.out)) _ qs rfl (HO3.out.rd) (by have := HJL.out; have := HQS.out; omega) ?_; intro v' w' hO' hg'; obtain ⟨va', ln', vc', hv', hln'⟩ : ∃ va' ln' vc', v' = .slice va' ln' vc' ∧ ln' = (js ++ qs).length := (by obtain ⟨a, b, e, _⟩ := hO'.rd.shape; exact ⟨a, _, b, e, rfl⟩); subst hv'; rw [List.length_append] at hln'; have hcmp : (4096 : Int) < (ln' : Int) := (by have := HBIG.out; omega); have HLN := Lib.hid hln'; clear hln')
            go_ret
            have hfin : OwnQ S W1 w' (.slice va' ln' vc') (jnL es np left cn ((rows ps).take (k + 1)) LB) := by
              rw [HST.out, HONE.out, ← HR3.out]
              exact OwnQ.app (HJ1.out.ext (EX.out.trans E03.out)) (fun p hp => (HJ2.out p hp).ext (EX.out.trans E03.out)) HJ3.out HF3.out hO' hg'
            have hlen : (jnL es np left cn ((rows ps).take (k + 1)) LB).length = js.length + (qs).length := by
              rw [HST.out, HONE.out, ← HR3.out, List.length_append, ← HJ3.out, rows_len, rows_len]
            obtain ⟨v9, hv9, hr9, he9⟩ := hfin.base HW.out (HU.out.ext HW.out)
            subst hv9
            exact ⟨_, _, rfl, hr9, he9, .inr ⟨by rw [hlen]; exact HBIG.out, by have := HPRE.out; rw [hlen] at this; have := HBIG.out; omega⟩⟩
          · have HBIG := Lib.hid (show js.length + (qs).length ≤ 4096 by omega)
            clear hbig
            go_wp2_with (at_builtin; refine appG tP rfl _ _ rfl W1 _ js rfl (HJ1.out.ext (EX.out.trans E03.out)) _ qs rfl (HO3.out.rd) (by have := HJL.out; have := HQS.out; omega) ?_; intro v' w' hO' hg'; obtain ⟨va', ln', vc', hv', hln'⟩ : ∃ va' ln' vc', v' = .slice va' ln' vc' ∧ ln' = (js ++ qs).length := (by obtain ⟨a, b, e, _⟩ := hO'.rd.shape; exact ⟨a, _, b, e, rfl⟩); subst hv'; rw [List.length_append] at hln'; have hcmp : (ln' : Int) ≤ 4096 := (by have := HBIG.out; omega); have HLN := Lib.hid hln'; clear hln')
            go_roundw
            case rel =>
              have hfin : OwnQ S W1 w' (.slice va' ln' vc') (jnL es np left cn ((rows ps).take (k + 1)) LB) := by
                rw [HST.out, HONE.out, ← HR3.out]
                exact OwnQ.app (HJ1.out.ext (EX.out.trans E03.out)) (fun p hp => (HJ2.out p hp).ext (EX.out.trans E03.out)) HJ3.out HF3.out hO' hg'
              have hlen : (jnL es np left cn ((rows ps).take (k + 1)) LB).length = js.length + (qs).length := by
                rw [HST.out, HONE.out, ← HR3.out, List.length_append, ← HJ3.out, rows_len, rows_len]
              exact ⟨k + 1, by rw [rows_len]; exact HL.out, by go_num, hfin, by rw [hlen]; exact HBIG.out⟩
            case measure => simp [intOf]; omega
      · have HONE := Lib.hid (show oneJ es np left cn LB yr = parL es np yr LB by unfold oneJ; rw [if_neg (fun e => h0 (by rw [← HL3.out]; exact e.1))])
        have h0' : ((v3n : Int) == 0) = false := by simp; omega
        clear h0 hn3
        rcases Nat.lt_or_ge 4096 (js.length + qs.length) with hbig | hbig
        · have HBIG := Lib.hid (show 4096 < js.length + (qs).length by omega)
          clear hbig
          go_wp2_with (at_builtin; refine appG tP rfl _ _ rfl W1 _ js rfl (HJ1.out.ext (EX.out.trans E03.out)) _ qs rfl (HO3.out.rd) (by have := HJL.out; have := HQS.out; omega) ?_; intro v' w' hO' hg'; obtain ⟨va', ln', vc', hv', hln'⟩ : ∃ va' ln' vc', v' = .slice va' ln' vc' ∧ ln' = (js ++ qs).length := (by obtain ⟨a, b, e, _⟩ := hO'.rd.shape; exact ⟨a, _, b, e, rfl⟩); subst hv'; rw [List.length_append] at hln'; have hcmp : (4096 : Int) < (ln' : Int) := (by have := HBIG.out; omega); have HLN := Lib.hid hln'; clear hln')
          go_ret
          have hfin : OwnQ S W1 w' (.slice va' ln' vc') (jnL es np left cn ((rows ps).take (k + 1)) LB) := by
            rw [HST.out, HONE.out, ← HR3.out]
            exact OwnQ.app (HJ1.out.ext (EX.out.trans E03.out)) (fun p hp => (HJ2.out p hp).ext (EX.out.trans E03.out)) HJ3.out HF3.out hO' hg'
          have hlen : (jnL es np left cn ((rows ps).take (k + 1)) LB).length = js.length + (qs).length := by
            rw [HST.out, HONE.out, ← HR3.out, List.length_append, ← HJ3.out, rows_len, rows_len]
          obtain ⟨v9, hv9, hr9, he9⟩ := hfin.base HW.out (HU.out.ext HW.out)
          subst hv9
          exact ⟨_, _, rfl, hr9, he9, .inr ⟨by rw [hlen]; exact HBIG.out, by have := HPRE.out; rw [hlen] at this; have := HBIG.out; omega⟩⟩
        · have HBIG := Lib.hid (show js.length + (qs).length ≤ 4096 by omega)
          clear hbig
          go_wp2_with (at_builtin; refine appG tP rfl _ _ rfl W1 _ js rfl (HJ1.out.ext (EX.out.trans E03.out)) _ qs rfl (HO3.out.rd) (by have := HJL.out; have := HQS.out; omega) ?_; intro v' w' hO' hg'; obtain ⟨va', ln', vc', hv', hln'⟩ : ∃ va' ln' vc', v' = .slice va' ln' vc' ∧ ln' = (js ++ qs).length := (by obtain ⟨a, b, e, _⟩ := hO'.rd.shape; exact ⟨a, _, b, e, rfl⟩); subst hv'; rw [List.length_append] at hln'; have hcmp : (ln' : Int) ≤ 4096 := (by have := HBIG.out; omega); have HLN := Lib.hid hln'; clear hln')
          go_roundw
          case rel =>
            have hfin : OwnQ S W1 w' (.slice va' ln' vc') (jnL es np left cn ((rows ps).take (k + 1)) LB) := by
              rw [HST.out, HONE.out, ← HR3.out]
              exact OwnQ.app (HJ1.out.ext (EX.out.trans E03.out)) (fun p hp => (HJ2.out p hp).ext (EX.out.trans E03.out)) HJ3.out HF3.out hO' hg'
            have hlen : (jnL es np left cn ((rows ps).take (k + 1)) LB).length = js.length + (qs).length := by
              rw [HST.out, HONE.out, ← HR3.out, List.length_append, ← HJ3.out, rows_len, rows_len]
            exact ⟨k + 1, by rw [rows_len]; exact HL.out, by go_num, hfin, by rw [hlen]; exact HBIG.out⟩
          case measure => simp [intOf]; omega
    · have hke : (rows ps).take k = rows ps := List.take_of_length_le (by rw [rows_len]; have := HPN.out; omega)
      rw [hke] at hO
      have HO := Lib.hid hO
      clear hke hO hlim
      go_wp2_with fail
      go_ret
      obtain ⟨v9, hv9, hr9, he9⟩ := HO.out.base HW.out (HU.out.ext HW.out)
      subst hv9
      exact ⟨_, _, rfl, hr9, he9, .inl rfl⟩
end Go.Proofs.YtbplapkcleipiaaGreatDoor
