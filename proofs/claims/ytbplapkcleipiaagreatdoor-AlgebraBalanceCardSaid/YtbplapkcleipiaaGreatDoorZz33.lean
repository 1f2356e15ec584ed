/- Aggregates, of the program. -/
import Derived.Test.YtbplapkcleipiaaGreatDoorZz30
import Derived.Test.YtbplapkcleipiaaGreatDoorZz32
namespace Go.Proofs.YtbplapkcleipiaaGreatDoor
open Go.ChangeShapes Go.WideShapes Go.ChangeAt Go.RowKit

theorem evlV_ok (l : List X) (root : Int) (row : List V) (hx : OkX l) (hr : OkR row) : okN (evlV l root row).n := by
  unfold evlV
  split
  · exact okN_nul
  · exact okR_at (evs_ok row hr l hx) _
/-- the arguments of an aggregate -/
def azL (es : List X) (arg : Int) (l : List R) : List V := (l.map fun r => evlV es arg r.v).filter fun v => decide (v.k ≠ 0)
theorem az_step (es : List X) (arg : Int) (l : List R) (k : Nat) (h : k < l.length) : azL es arg (l.take (k + 1)) = azL es arg (l.take k) ++ if (evlV es arg l[k].v).k = 0 then [] else [evlV es arg l[k].v] := by
  unfold azL
  rw [List.take_succ_eq_append_getElem h, List.map_append, List.filter_append, List.map_cons, List.map_nil, List.filter_cons]
  by_cases hk : (evlV es arg l[k].v).k = 0 <;> simp [hk]
theorem az_len (es : List X) (arg : Int) (l : List R) : (azL es arg l).length ≤ l.length := Nat.le_trans (List.length_filter_le _ _) (by rw [List.length_map]; exact Nat.le_refl _)
def AgR (W1 : World) (es : List X) (arg : Int) (l : List R) (v i : Value) (wr : World) : Prop := ∃ k : Nat, k ≤ l.length ∧ i = .int .i64 k ∧ OwnG tV.e W1 wr v (azL es arg (l.take k))
set_option maxHeartbeats 16000000 in
set_option maxRecDepth 100000 in
theorem agg_prg (es : List X) (gk ga : Int) (l : List R) (S : Nat → Prop) (a2 a3 a4 : Option Addr) (n2 n3 n4 c2 c3 c4 : Nat) (ve vr : Value) (w : World) (hl : RdG w ve es) (hr : RdR S w vr l) (hs : es.length ≤ 1000) (hx : OkX es) (ho : OkRs l) (hll : l.length ≤ 1000000) (hk : 1 ≤ gk ∧ gk ≤ 4) :
    Calls Tryz.prog 107 #[eaV ve (.slice a2 n2 c2) (.slice a3 n3 c3) (.slice a4 n4 c4), .agg #[.int .i64 gk, .int .i64 ga], vr] w fun e w' => e = .returned (vv (agV es l (gk, ga))) ∧ Ext w w' := by
  have HE := Lib.hid (fun (row : List V) v w' (hE : Ext w w') (hr : RdG w' v row) (ho : OkR row) => eval_prg es ga row ve v w' (hl.ext hE) hr hs hx ho)
  have HZ := Lib.hid (show OkV (azL es ga l) from fun v hv => by
    obtain ⟨r, hr, rfl⟩ := List.mem_map.1 (List.mem_filter.1 hv).1
    exact evlV_ok es ga r.v hx (ho r hr))
  obtain ⟨ad, cap, rfl, _, _⟩ := hl.shape
  obtain ⟨ps, h1, h2, h3, rfl⟩ := hr
  obtain ⟨bd, bcap, rfl, b1, b2⟩ := h1.shape
  have HP := Lib.hid h1
  have HF := Lib.hid h3
  have HO := Lib.hid ho
  have HLL := Lib.hid hll
  have hag : gk ≠ 1 → agV es (rows ps) (gk, ga) = if (azL es ga (rows ps)).length = 0 then nul else if gk = 3 then minL (azL es ga (rows ps)) else if gk = 4 then maxL (azL es ga (rows ps)) else sumL (azL es ga (rows ps)) := fun h => by unfold agV azL; rw [if_neg h]
  have hag1 : gk = 1 → agV es (rows ps) (gk, ga) = ⟨1, (ps.length : Int), []⟩ := fun h => by unfold agV; rw [if_pos h, rows_len]
  have HAG := Lib.hid hag
  have HAG1 := Lib.hid hag1
  clear hl h1 h2 h3 hs hx ho hll hag hag1
  obtain ⟨n, hn⟩ : ∃ n, n = es.length := ⟨_, rfl⟩
  obtain ⟨t, ht⟩ : ∃ t, t = ps.length := ⟨_, rfl⟩
  have HT := Lib.hid ht
  rw [← hn] at HE ⊢
  rw [← ht] at HP b1 HAG1 ⊢
  clear hn ht
  unfold maxLen at b2
  obtain ⟨W1, hW⟩ : ∃ W1, W1 = ((w.alloc (.cells #[.slice ad n cap, .slice a2 n2 c2, .slice a3 n3 c3, .slice a4 n4 c4] 111)).alloc (.cells #[.int .i64 gk, .int .i64 ga] 62)).alloc (.cells #[.int .i64 0, .int .i64 0, sv []] 58) := ⟨_, rfl⟩
  have HW := Lib.hid (show Ext w W1 by rw [hW]; exact (((Ext.refl _).alloc _ _).alloc _ _).alloc _ _)
  have HBX := Lib.hid (show Bxn w.heap.size [.slice ad n cap, .slice a2 n2 c2, .slice a3 n3 c3, .slice a4 n4 c4] W1 by rw [hW]; exact ((Bxn.new w _ _).ext ((Ext.refl _).alloc _ _)).ext ((Ext.refl _).alloc _ _))
  have HBY := Lib.hid (show Bxn (w.heap.size + 1) [.int .i64 gk, .int .i64 ga] W1 by rw [hW, ← alsz w]; exact (Bxn.new _ _ _).ext ((Ext.refl _).alloc _ _))
  have HBR := Lib.hid (show Bxn (w.heap.size + 2) [.int .i64 0, .int .i64 0, sv []] W1 by
    have h := Bxn.new ((w.alloc (.cells #[.slice ad n cap, .slice a2 n2 c2, .slice a3 n3 c3, .slice a4 n4 c4] 111)).alloc (.cells #[.int .i64 gk, .int .i64 ga] 62)) #[.int .i64 0, .int .i64 0, sv []] 58
    rw [alsz, alsz] at h
    rw [hW]; exact h)
  have hW' := Lib.hid hW
  clear hW
  by_cases h1 : gk = 1
  · subst h1
    have HQ := Lib.hid (HAG1.out rfl)
    clear HAG HAG1 hk
    go_enter Tryz.func107, Tryz.ntmps107
    go_wp2_with fail
    exact bodyPost_ret (v := vv ⟨1, (t : Int), []⟩) (by simp [results, Tryz.results107, go_sem, vv]) rfl ⟨by rw [HQ.out], (((Ext.refl w).alloc _ _).alloc _ _).alloc _ _⟩
  · have HQ0 := Lib.hid (HAG.out h1)
    have h1' : (gk == 1) = false := by simpa using h1
    clear HAG HAG1
    go_enter Tryz.func107, Tryz.ntmps107
    go_wp2_with fail
    rw [← hW'.out]
    go_loopw [7, 19] (AgR W1 es ga (rows ps)) (fun _ i _ => t - (intOf i).toNat)
    case atStart => exact ⟨0, Nat.zero_le _, rfl, OwnG.nil _ _ _ (Ext.refl _)⟩
    case round =>
      obtain ⟨k, hk2, rfl, hO⟩ := hrel
      rw [rows_len] at hk2
      have hkt : k ≤ t := by rw [HT.out]; exact hk2
      have hEw := Lib.hid (HW.out.trans hO.2)
      have hbx := HBX.out.ext hO.2
      have hby := HBY.out.ext hO.2
      have hbr := HBR.out.ext hO.2
      have k0 := (hbx.2 0 _ rfl).1
      have l0 := (hby.2 0 _ rfl).1
      have l1 := (hby.2 1 _ rfl).1
      have s0 := hbx.1
      have s1 := hby.1
      have s2 := hbr.1
      have HBRk := Lib.hid hbr
      have HBYk := Lib.hid hby
      clear hbx hby hbr
      by_cases hlt : k < t
      · have hlt' : k < ps.length := by rw [← HT.out]; exact hlt
        have hlr : k < (rows ps).length := by rw [rows_len]; exact hlt'
        obtain ⟨g, o, rfl, d0', d1'⟩ := rd_P HP.out k hlt'
        have d0 := hEw.out.keeps d0'
        have d1 := hEw.out.keeps d1'
        clear d0' d1'
        have hst := az_step es ga (rows ps) k hlr
        rw [rows_at ps k hlt'] at hst
        have hfi := HF.out ps[k] (List.getElem_mem _)
        have hok := HO.out ps[k].r (List.mem_map_of_mem (List.getElem_mem _))
        have hpl : (azL es ga ((rows ps).take k)).length ≤ 1000000 := Nat.le_trans (az_len _ _ _) (by rw [List.length_take]; have := HLL.out; omega)
        generalize ps[k] = x at *
        obtain ⟨⟨xa, xn, xc, xb, xm, xd⟩, xr⟩ := x
        simp only [Hd.x, Hd.y] at d0 d1 hfi hst hok
        have HHH := Lib.hid (fun w' (hE : Ext w w') => HE.out xr.v (.slice xa xn xc) w' hE (hfi.1.1.ext hE) hok)
        have HO1 := Lib.hid hO
        have HPL := Lib.hid hpl
        have HL := Lib.hid hlt'
        generalize evlV es ga xr.v = z at hst HHH
        obtain ⟨zk, zn, zs⟩ := z
        simp only at hst
        clear hfi hok hO hpl
        generalize azL es ga ((rows ps).take k) = pre at *
        by_cases hz : zk = 0
        · subst hz
          rw [if_pos rfl, List.append_nil] at hst
          have HST := Lib.hid hst
          clear hst
          go_wp2_with fail
          refine (HHH.out _ (hEw.out.alloc _ _)).mono ?_; rintro e w2 ⟨rfl, hE⟩
          go_wp2_with fail
          go_roundw
          case rel => exact ⟨k + 1, by rw [rows_len]; exact HL.out, by go_num, by rw [HST.out]; exact HO1.out.ext ((((Ext.refl wr).alloc _ _).trans hE).alloc _ _)⟩
          case measure => simp [intOf]; omega
        · rw [if_neg hz] at hst
          have HST := Lib.hid hst
          have hz' : (zk == 0) = false := by simpa using hz
          clear hst hz
          go_wp2_with fail
          refine (HHH.out _ (hEw.out.alloc _ _)).mono ?_; rintro e w2 ⟨rfl, hE⟩
          have HE2 := Lib.hid (((Ext.refl wr).alloc #[.slice xa xn xc, .slice xb xm xd] 51).trans hE)
          have HE3 := Lib.hid (HE2.out.alloc #[.int .i64 zk, .int .i64 zn, sv zs] 58)
          clear hE
          go_wp2_with (at_builtin; refine appG tV rfl _ _ rfl W1 _ pre rfl (HO1.out.ext (HE3.out.alloc _ _)) _ [⟨zk, zn, zs⟩] rfl (rd_litG (w2.alloc (.cells #[.int .i64 zk, .int .i64 zn, sv zs] 58)) [(⟨zk, zn, zs⟩ : V)] #[.int .i64 zk, .int .i64 zn, sv zs] 58 _ 1 (by simp) rfl (by simp) rfl) (by have := HPL.out; simp; omega) ?_; intro v' w' hO' hg')
          go_roundw
          case rel => exact ⟨k + 1, by rw [rows_len]; exact HL.out, by go_num, by rw [HST.out]; exact hO'⟩
          case measure => simp [intOf]; omega
      · have hke : (rows ps).take k = rows ps := List.take_of_length_le (by rw [rows_len]; have := HT.out; omega)
        rw [hke] at hO
        have hzl : (azL es ga (rows ps)).length ≤ 1000000 := Nat.le_trans (az_len _ _ _) HLL.out
        generalize azL es ga (rows ps) = az at *
        obtain ⟨va, vcap, rfl, _, _⟩ := hO.rd.shape
        have HRD := Lib.hid hO.rd
        obtain ⟨m, hm⟩ : ∃ m, m = az.length := ⟨_, rfl⟩
        have HM := Lib.hid hm
        rw [← hm] at HRD hzl ⊢
        clear hke hO hm
        by_cases h0 : m = 0
        · subst h0
          have HQ := Lib.hid (show agV es (rows ps) (gk, ga) = nul by rw [HQ0.out, if_pos HM.out.symm])
          have hRR := (((HBRk.out).set 0 (.int .i64 0)).set 1 (.int .i64 0)).set 2 (sv [])
          have z0 := (hRR.2 0 _ rfl).1
          have z1 := (hRR.2 1 _ rfl).1
          have z2 := (hRR.2 2 _ rfl).1
          have y0 := ((HBRk.out).2 0 _ rfl).1
          have y1 := ((HBRk.out).2 1 _ rfl).1
          have y2 := ((HBRk.out).2 2 _ rfl).1
          have x0 := ((HBRk.out).2 0 _ rfl).2
          have x1 := ((HBRk.out).2 1 _ rfl).2
          have x2 := ((HBRk.out).2 2 _ rfl).2
          clear hRR
          go_wp2_with fail
          exact bodyPost_ret (v := vv ⟨0, 0, []⟩) (by simp [results, Tryz.results107, go_sem, z0, z1, z2, vv]) rfl ⟨by rw [HQ.out]; rfl, (((hEw.out).setNew _ _ (by omega) _).setNew _ _ (by omega) _).setNew _ _ (by omega) _⟩
        · have hne : 0 < az.length := by have := HM.out; omega
          have h0' : ((m : Int) == 0) = false := by simp; omega
          have HMN := Lib.hid (fun w' (hE : Ext wr w') => mn_prg az _ w' (HRD.out.ext hE) hne)
          have HMX := Lib.hid (fun w' (hE : Ext wr w') => mx_prg az _ w' (HRD.out.ext hE) hne)
          have HSU := Lib.hid (fun w' (hE : Ext wr w') => sum_prg az _ w' (HRD.out.ext hE) HZ.out (by have := HM.out; omega))
          have hq : agV es (rows ps) (gk, ga) = if gk = 3 then minL az else if gk = 4 then maxL az else sumL az := by rw [HQ0.out, if_neg (by have := HM.out; omega)]
          clear hne
          rcases (show gk = 2 ∨ gk = 3 ∨ gk = 4 by omega) with rfl | rfl | rfl
          · have HQ := Lib.hid (show agV es (rows ps) (2, ga) = sumL az from hq)
            clear hq h0
            obtain ⟨z, hz⟩ : ∃ z, z = sumL az := ⟨_, rfl⟩
            rw [← hz] at HSU HQ
            obtain ⟨zk, zn, zs⟩ := z
            clear hz
            go_wp2_with fail
            refine (HSU.out _ (Ext.refl _)).mono ?_; rintro e w5 ⟨rfl, hE5⟩
            have HB5 := Lib.hid (HBRk.out.ext hE5)
            have HE5 := Lib.hid (hEw.out.trans hE5)
            clear hE5
            have hRR := (((HB5.out).set 0 (.int .i64 zk)).set 1 (.int .i64 zn)).set 2 (sv zs)
            have z0 := (hRR.2 0 _ rfl).1
            have z1 := (hRR.2 1 _ rfl).1
            have z2 := (hRR.2 2 _ rfl).1
            have y0 := ((HB5.out).2 0 _ rfl).1
            have y1 := ((HB5.out).2 1 _ rfl).1
            have y2 := ((HB5.out).2 2 _ rfl).1
            have x0 := ((HB5.out).2 0 _ rfl).2
            have x1 := ((HB5.out).2 1 _ rfl).2
            have x2 := ((HB5.out).2 2 _ rfl).2
            clear hRR
            go_wp2_with fail
            exact bodyPost_ret (v := vv ⟨zk, zn, zs⟩) (by simp [results, Tryz.results107, go_sem, z0, z1, z2, vv]) rfl ⟨by rw [HQ.out], (((HE5.out).setNew _ _ (by omega) _).setNew _ _ (by omega) _).setNew _ _ (by omega) _⟩
          · have HQ := Lib.hid (show agV es (rows ps) (3, ga) = minL az from hq)
            clear hq h0
            obtain ⟨z, hz⟩ : ∃ z, z = minL az := ⟨_, rfl⟩
            rw [← hz] at HMN HQ
            obtain ⟨zk, zn, zs⟩ := z
            clear hz
            go_wp2_with fail
            refine (HMN.out _ (Ext.refl _)).mono ?_; rintro e w5 ⟨rfl, hE5⟩
            have HB5 := Lib.hid (HBRk.out.ext hE5)
            have HE5 := Lib.hid (hEw.out.trans hE5)
            clear hE5
            have hRR := (((HB5.out).set 0 (.int .i64 zk)).set 1 (.int .i64 zn)).set 2 (sv zs)
            have z0 := (hRR.2 0 _ rfl).1
            have z1 := (hRR.2 1 _ rfl).1
            have z2 := (hRR.2 2 _ rfl).1
            have y0 := ((HB5.out).2 0 _ rfl).1
            have y1 := ((HB5.out).2 1 _ rfl).1
            have y2 := ((HB5.out).2 2 _ rfl).1
            have x0 := ((HB5.out).2 0 _ rfl).2
            have x1 := ((HB5.out).2 1 _ rfl).2
            have x2 := ((HB5.out).2 2 _ rfl).2
            clear hRR
            go_wp2_with fail
            exact bodyPost_ret (v := vv ⟨zk, zn, zs⟩) (by simp [results, Tryz.results107, go_sem, z0, z1, z2, vv]) rfl ⟨by rw [HQ.out], (((HE5.out).setNew _ _ (by omega) _).setNew _ _ (by omega) _).setNew _ _ (by omega) _⟩
          · have HQ := Lib.hid (show agV es (rows ps) (4, ga) = maxL az from hq)
            clear hq h0
            obtain ⟨z, hz⟩ : ∃ z, z = maxL az := ⟨_, rfl⟩
            rw [← hz] at HMX HQ
            obtain ⟨zk, zn, zs⟩ := z
            clear hz
            go_wp2_with fail
            refine (HMX.out _ (Ext.refl _)).mono ?_; rintro e w5 ⟨rfl, hE5⟩
            have HB5 := Lib.hid (HBRk.out.ext hE5)
            have HE5 := Lib.hid (hEw.out.trans hE5)
            clear hE5
            have hRR := (((HB5.out).set 0 (.int .i64 zk)).set 1 (.int .i64 zn)).set 2 (sv zs)
            have z0 := (hRR.2 0 _ rfl).1
            have z1 := (hRR.2 1 _ rfl).1
            have z2 := (hRR.2 2 _ rfl).1
            have y0 := ((HB5.out).2 0 _ rfl).1
            have y1 := ((HB5.out).2 1 _ rfl).1
            have y2 := ((HB5.out).2 2 _ rfl).1
            have x0 := ((HB5.out).2 0 _ rfl).2
            have x1 := ((HB5.out).2 1 _ rfl).2
            have x2 := ((HB5.out).2 2 _ rfl).2
            clear hRR
            go_wp2_with fail
            exact bodyPost_ret (v := vv ⟨zk, zn, zs⟩) (by simp [results, Tryz.results107, go_sem, z0, z1, z2, vv]) rfl ⟨by rw [HQ.out], (((HE5.out).setNew _ _ (by omega) _).setNew _ _ (by omega) _).setNew _ _ (by omega) _⟩
end Go.Proofs.YtbplapkcleipiaaGreatDoor
/- Groups while they are built: what lies where. -/
namespace Go.Proofs.YtbplapkcleipiaaGreatDoor
open Go.ChangeShapes Go.WideShapes Go.ChangeAt Go.RowKit

theorem off_out {e : TypeId} {W w w' : World} {u : Value} {b : Option Nat} (h : Off e W w u) (k : Grw w w' b) (hi : In (fun g => some g ≠ b) u) : Off e W w' u := fun g hg hl => by
  rcases h g hg hl with h | ⟨cur, e', fr, c1, c2⟩
  · exact .inl h
  · exact .inr ⟨cur, e', fr, by rw [k.block g (Array.getElem?_eq_some_iff.1 c1).1 (hi g hg hl)]; exact c1, c2⟩
theorem grw_keeps {w w' : World} {b : Option Nat} (k : Grw w w' b) {g o : Nat} {u : Value} (h : w.cell? ⟨g, o, none⟩ = some u) (hn : some g ≠ b) : w'.cell? ⟨g, o, none⟩ = some u := by
  rw [← h]; exact World.cell?_of_block (k.block g (World.block_lt_of_cell? _ _ h) hn)
/-- a row of a group -/
def GFi (S : Nat → Prop) (W w : World) (q : P) : Prop := Fine S W w q ∧ Off tV.e W w q.h.y
theorem GFi.ext {S : Nat → Prop} {W w w' : World} {q : P} (h : GFi S W w q) (e : Ext w w') : GFi S W w' q := ⟨h.1.ext e, h.2.ext e⟩
theorem GFi.vals {S : Nat → Prop} {W w w' : World} {q : P} {b : Option Nat} (h : GFi S W w q) (k : Grw w w' b) (hb : RowBlk tV.e W w b) (hx : In (fun g => some g ≠ b) q.h.x) : GFi S W w' q := by
  obtain ⟨⟨⟨⟨r1, r2⟩, o1, o2⟩, i1, i2⟩, o3⟩ := h
  exact ⟨⟨⟨⟨r1.out k hx, r2.grw o3 k hb⟩, off_out o1 k hx, off_other o2 o3 k hb⟩, i1, i2⟩, o3.grw k hb⟩
/-- groups of the first k classes: rows qs in vg; what is left of the classes -/
structure GI (S : Nat → Prop) (W w : World) (vc : Value) (cps : List ClP) (k : Nat) (vg : Value) (qs : List P) : Prop where
  hd : RdG w vc cps
  ho1 : Off tP.e W w vc
  ho2 : Off tV.e W w vc
  own : OwnG tP.e W w vg qs
  fin : ∀ q ∈ qs, GFi S W w q
  rest : ∀ j c, k ≤ j → cps[j]? = some c → OwnG tP.e W w c.h.y c.ps ∧ OwnG tV.e W w c.h.x c.v ∧ Dis vg c.h.y ∧ ∀ q ∈ qs, Dis c.h.x q.h.x
  dis : cps.Pairwise fun c d => Dis c.h.x d.h.x
theorem GI.ext {S : Nat → Prop} {W w w' : World} {vc vg : Value} {cps : List ClP} {k : Nat} {qs : List P} (h : GI S W w vc cps k vg qs) (e : Ext w w') : GI S W w' vc cps k vg qs :=
  ⟨h.hd.ext e, h.ho1.ext e, h.ho2.ext e, h.own.ext e, fun q hq => (h.fin q hq).ext e, fun j c hj hc => by
    obtain ⟨a, b, d, f⟩ := h.rest j c hj hc
    exact ⟨a.ext e, b.ext e, d, f⟩, h.dis⟩
/-- the classes behind classify -/
theorem GI.start {S : Nat → Prop} {W w : World} {vc : Value} {cps : List ClP} {ps0 : List P} (h : ClsI true S W w vc cps ps0) : GI S W w vc cps 0 (.slice none 0 0) [] :=
  ⟨h.own.rd, h.own.off (by decide), h.own.off (by decide), OwnG.nil _ _ _ h.own.2, fun q hq => (by cases hq), fun j c _ hc => by
    have hm := List.mem_of_getElem? hc
    exact ⟨(h.rws c hm).1, (h.val c hm).2.2.2 rfl, fun g hg => (by cases hg), fun q hq => (by cases hq)⟩, h.dis.imp fun {a b} hab => hab.2 rfl⟩
/-- the one class without rows -/
theorem GI.one (S : Nat → Prop) {W w : World} (hE : Ext W w) : GI S W (w.alloc (.cells #[.slice none 0 0, .slice none 0 0] 163)) (.slice (some ⟨w.heap.size, 0, none⟩) 1 1) [⟨⟨none, 0, 0, none, 0, 0⟩, [], []⟩] 0 (.slice none 0 0) [] := by
  have hE2 := hE.alloc #[.slice none 0 0, .slice none 0 0] 163
  have hoff : ∀ e, tCl.e ≠ e → Off e W (w.alloc (.cells #[.slice none 0 0, .slice none 0 0] 163)) (.slice (some ⟨w.heap.size, 0, none⟩) 1 1) := fun e hne g hg _ => by
    injection hg with hg; subst hg
    exact .inr ⟨#[.slice none 0 0, .slice none 0 0], tCl.e, (0, 0), by show (w.heap.push _)[w.heap.size]? = _; rw [Array.getElem?_push_size]; rfl, hne⟩
  refine ⟨rd_litG w [(⟨⟨none, 0, 0, none, 0, 0⟩, [], []⟩ : ClP)] #[.slice none 0 0, .slice none 0 0] 163 _ 1 rfl rfl (by simp) rfl, hoff _ (by decide), hoff _ (by decide), OwnG.nil _ _ _ hE2, fun q hq => (by cases hq), fun j c _ hc => ?_, by simp⟩
  have hm := List.mem_of_getElem? hc
  simp only [List.mem_singleton] at hm; subst hm
  exact ⟨OwnG.nil _ _ _ hE2, OwnG.nil _ _ _ hE2, fun g hg => (by cases hg), fun q hq => (by cases hq)⟩
theorem dis_in {u v : Value} (h : Dis u v) : In (fun g => some g ≠ u.ownBlock) v := fun g hg _ e => h g e.symm hg
/-- class k's values grew, where they stood or elsewhere -/
theorem GI.vals {S : Nat → Prop} {W w w' : World} {vc vg : Value} {cps : List ClP} {k : Nat} {qs : List P} (h : GI S W w vc cps k vg qs) {c : ClP} (hc : cps[k]? = some c) (g : Grw w w' c.h.x.ownBlock) :
    GI S W w' vc cps (k + 1) vg qs ∧ OwnG tP.e W w' c.h.y c.ps := by
  obtain ⟨c1, c2, c3, c4⟩ := h.rest k c (Nat.le_refl _) hc
  have hb := c2.blk
  have hb' : ∀ g, c.h.x.ownBlock = some g → W.heap.size ≤ g := fun g hg => (hb g hg).1
  obtain ⟨hk, hck⟩ := List.getElem?_eq_some_iff.1 hc
  refine ⟨⟨h.hd.grw h.ho2 g hb, off_other h.ho1 h.ho2 g hb, h.ho2.grw g hb, h.own.other g hb' (h.own.apart c2 (by decide)), fun q hq => (h.fin q hq).vals g hb (dis_in (c4 q hq)), fun j d hj hd => ?_, h.dis⟩, c1.other g hb' (c1.apart c2 (by decide))⟩
  obtain ⟨d1, d2, d3, d4⟩ := h.rest j d (by omega) hd
  obtain ⟨hl, hdl⟩ := List.getElem?_eq_some_iff.1 hd
  have hdis := List.pairwise_iff_getElem.1 h.dis k j hk hl (by omega)
  rw [hck, hdl] at hdis
  refine ⟨d1.other g hb' (d1.apart c2 (by decide)), d2.other g hb' ?_, d3, d4⟩
  cases e : d.h.x.ownBlock with
  | none => exact .inl rfl
  | some q => exact .inr fun e2 => hdis q e2.symm e
/-- the values of a new group lie apart from the classes that are left -/
theorem GI.apart {S : Nat → Prop} {W w : World} {vc vg : Value} {cps : List ClP} {k : Nat} {qs : List P} (h : GI S W w vc cps k vg qs) {c : ClP} (hc : cps[k]? = some c) {v : Value} (hl : Loc w c.h.x v) (j : Nat) (d : ClP) (hj : k + 1 ≤ j) (hd : cps[j]? = some d) : Dis d.h.x v := by
  obtain ⟨d1, d2, d3, d4⟩ := h.rest j d (by omega) hd
  obtain ⟨hk, hck⟩ := List.getElem?_eq_some_iff.1 hc
  obtain ⟨hl', hdl⟩ := List.getElem?_eq_some_iff.1 hd
  have hdis := List.pairwise_iff_getElem.1 h.dis k j hk hl' (by omega)
  rw [hck, hdl] at hdis
  intro g hg e
  rcases hl with hl | ⟨q, hq, hle⟩
  · rw [hl] at e; exact hdis g e hg
  · rw [hq] at e; injection e with e; subst e
    have := d2.lt q hg
    omega
/-- one more group -/
theorem GI.put {S : Nat → Prop} {W w w' : World} {vc vg vg' : Value} {cps : List ClP} {k : Nat} {qs : List P} (h : GI S W w vc cps k vg qs) {q : P} (ho : OwnG tP.e W w' vg' (qs ++ [q])) (hg : w.grownBy w' vg.ownBlock) (hl : Loc w vg vg') (hq : GFi S W w q) (hd : ∀ j c, k ≤ j → cps[j]? = some c → Dis c.h.x q.h.x) :
    GI S W w' vc cps k vg' (qs ++ [q]) := by
  have g := grw_by hg
  have hb := h.own.blk
  have hb' : ∀ g, vg.ownBlock = some g → W.heap.size ≤ g := fun g hg => (hb g hg).1
  have hfin : ∀ q, GFi S W w q → GFi S W w' q := fun q hq => ⟨hq.1.grw g hb, off_other hq.2 hq.1.1.2.2 g hb⟩
  refine ⟨h.hd.grw h.ho1 g hb, h.ho1.grw g hb, off_other h.ho2 h.ho1 g hb, ho, fun p hp => ?_, fun j c hj hc => ?_, h.dis⟩
  · rcases List.mem_append.1 hp with hp | hp
    · exact hfin p (h.fin p hp)
    · simp only [List.mem_singleton] at hp; subst hp; exact hfin p hq
  · obtain ⟨d1, d2, d3, d4⟩ := h.rest j c hj hc
    refine ⟨d1.other g hb' ?_, d2.other g hb' (d2.apart h.own (by decide)), fun b hbb e => ?_, fun p hp => ?_⟩
    · cases e : c.h.y.ownBlock with
      | none => exact .inl rfl
      | some b => exact .inr fun e2 => d3 b e2.symm e
    · rcases hl with hl | ⟨b', hb2, hle⟩
      · rw [hl] at hbb; exact d3 b hbb e
      · rw [hb2] at hbb; injection hbb with hbb; subst hbb
        have := d1.lt _ e
        omega
    · rcases List.mem_append.1 hp with hp | hp
      · exact d4 p hp
      · simp only [List.mem_singleton] at hp; subst hp; exact hd j c hj hc
theorem GI.roP {S : Nat → Prop} {W W' w : World} {vc vg : Value} {cps : List ClP} {k : Nat} {qs : List P} (h : GI S W w vc cps k vg qs) (hE : Ext W' W) (hU : Up S W) {l : List R} (hl : rows qs = l) : RoP S W' l (.returned vg) w :=
  ⟨vg, rfl, ⟨qs, h.own.rd, h.own.inn hU, fun p hp => ⟨(h.fin p hp).1.1.1, (h.fin p hp).1.2⟩, hl⟩, hE.trans h.own.2⟩
end Go.Proofs.YtbplapkcleipiaaGreatDoor
