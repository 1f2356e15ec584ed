/- Evaluating a query, of the program: Eval. -/
import Derived.Test.YtfojeajmonnifaaGreatDoorZz05
import Derived.Test.YtfojeajmonnifaaGreatDoorZz06
import Derived.Test.YtfojeajmonnifaaGreatDoorZz22
import Derived.Test.YtfojeajmonnifaaGreatDoorZz41
namespace Go.Proofs.YtfojeajmonnifaaGreatDoor
open Go.ChangeShapes Go.WideShapes Go.ChangeAt Go.RowKit

theorem evs_good {T : Nat} {Z : List Int} {es : List X} {db : List Tb} {cols : List (List Int)} (hx : GoodX T es) (hbd : ∀ tb ∈ db, RowsB T Z 6 tb.l) : ∀ (l : List Nd) (done : List (List R)), DoneB T Z (cols.take done.length) done → done.length ≤ cols.length →
    (∀ k (h : k < l.length), ∃ c, Chk es (db.map Tb.t) (cols.take (done.length + k)) l[k] c ∧ cols[done.length + k]? = some c) → (evsQ clsF es db cols l done).2 = 0 →
    (evsQ clsF es db cols l done).1.length = done.length + l.length ∧ DoneB T Z (cols.take (done.length + l.length)) (evsQ clsF es db cols l done).1
  | [], done, hd, _, _, _ => ⟨by simp [evsQ], by simpa [evsQ] using hd⟩
  | n :: l, done, hd, hl, hk, h0 => by
    rw [evsQ_step] at h0 ⊢
    by_cases hb : 4096 < (evN clsF es db cols n done).length
    · rw [if_pos hb] at h0; exact absurd h0 (by decide)
    rw [if_neg hb] at h0 ⊢
    obtain ⟨c, c1, c2⟩ := hk 0 (by simp)
    simp only [List.getElem_cons_zero, Nat.add_zero] at c1 c2
    have hlt : done.length < cols.length := (List.getElem?_eq_some_iff.1 c2).1
    have hg := evN_good (cols := cols) hx hbd hd (by rw [List.length_take]; omega) c1 (fun hi => by
      have := (isIx_iff _ _).1 hi
      exact (atC_take cols _ _ (by omega)).symm)
    have hs := done_step hd c2 (by omega) hg
    obtain ⟨r1, r2⟩ := evs_good hx hbd l (done ++ [evN clsF es db cols n done]) (by rw [List.length_append]; exact hs) (by rw [List.length_append]; simp; omega) (fun k h => by
      obtain ⟨d, d1, d2⟩ := hk (k + 1) (by simpa using h)
      refine ⟨d, ?_, ?_⟩
      · rw [List.length_append, show done.length + [evN clsF es db cols n done].length + k = done.length + (k + 1) by simp; omega]
        exact d1
      · rw [List.length_append, show done.length + [evN clsF es db cols n done].length + k = done.length + (k + 1) by simp; omega]
        exact d2) h0
    rw [List.length_append] at r1 r2
    have e : done.length + [evN clsF es db cols n done].length + l.length = done.length + (n :: l).length := by simp; omega
    rw [e] at r1 r2
    exact ⟨r1, r2⟩
/-- what Eval hands back -/
def EvP (w : World) (c : List R × Int) (e : Ending) (w' : World) : Prop := ∃ v qs, e = .returned (.tuple #[v, .int .i64 c.2]) ∧ RdG w' v qs ∧ RdAll w' qs ∧ rows qs = c.1 ∧ Ext w w'
theorem EvP.err {w w' : World} {c : List R × Int} {n : Int} (h : c = ([], n)) (hE : Ext w w') : EvP w c (.returned (.tuple #[.slice none 0 0, .int .i64 n])) w' := by
  subst h; exact ⟨_, [], rfl, rdG_nil _, fun q hq => (by cases hq), rfl, hE⟩
theorem Arr.putT {e : TypeId} {W w : World} {g : Nat} {l : List TtP} (h : Arr e W w g l) (i : Nat) (x : TtP) (hi : i < l.length) : Arr e W ((w.setCell ⟨g, i * 2, none⟩ (sv x.t.s)).setCell ⟨g, i * 2 + 1, none⟩ x.x) g (l.set i x) := (h.put i x hi).1
def TbR (W : World) (S : Nat → Prop) (w : World) (db : List Tb) (i : Value) (wr : World) : Prop := ∃ (k : Nat) (qs : List TtP), k ≤ db.length ∧ i = .int .i64 k ∧ qs.length = k ∧ Arr tTt.e W wr W.heap.size (fil qs db.length tTt.z) ∧ qs.map TtP.t = (db.map Tb.t).take k ∧ ∀ q ∈ qs, RdI S w q.x q.t.ks
set_option maxHeartbeats 8000000 in
set_option maxRecDepth 100000 in
theorem evQ_prg (S : Nat → Prop) (T : Nat) (Z : List Int) (es : List X) (ns : List Nd) (db : List Tb) (vn ve vd : Value) (w : World) (hn : RdN w vn ns) (hl : RdG w ve es) (hdb : RdB9 S w vd db) (hU : Up S w) (hG : PT w)
    (hx : GoodX T es) (hT : T ≤ 1073741824) (hZ : Z.length ≤ 10000) (hbd : ∀ tb ∈ db, RowsB T Z 6 tb.l) (hs : ∀ n ∈ ns, n.ex.length ≤ 1000000 ∧ n.ag.length ≤ 1000000) (hdl : db.length ≤ 1000000) :
    Calls Tryz.prog 19 #[.agg #[vn, ve], vd] w (EvP w (evQ clsF es db ns)) := by
  have HCQ := Lib.hid (fun vt w' (hE : Ext w w') (ht : RdT S w' vt (db.map Tb.t)) => ckQ_prg S es ns (db.map Tb.t) vn ve vt w' (hn.ext hE) (hl.ext hE) ht (hU.ext hE) hs)
  have HEQ := Lib.hid (fun cols vc w' (hE : Ext w w') (hc : RdS RdI S w' vc cols) (hq : colQ es (db.map Tb.t) ns = (cols, 0)) => evs_prg S T Z es ns db cols vn ve vd vc w' (hn.ext hE) (hl.ext hE) (hdb.ext hE) hc (hU.ext hE) (hG.ext hE) hx hT hZ hbd hq)
  have HGD := Lib.hid (fun cols (hq : colQ es (db.map Tb.t) ns = (cols, 0)) (h0 : (evsQ clsF es db cols ns []).2 = 0) => evs_good (T := T) (Z := Z) (cols := cols) hx hbd ns [] (fun i hi => by have := (isIx_iff _ _).1 hi; simp at this; omega) (Nat.zero_le _) (by simpa using colQ_at hq) h0)
  have HLN := Lib.hid (colQ_len es (db.map Tb.t) ns)
  have HWD := Lib.hid (colQ_wid es (db.map Tb.t) ns)
  obtain ⟨nd, ncap, rfl, ln1, ln2⟩ := hn.shape
  obtain ⟨ad, cap, rfl, le1, le2⟩ := hl.shape
  obtain ⟨td, tcap, rfl, ld1, ld2⟩ := hdb.shape
  have HDB := Lib.hid hdb
  have HU := Lib.hid hU
  have HQ := Lib.hid (show evQ clsF es db ns = if (colQ es (db.map Tb.t) ns).2 ≠ 0 then ([], (colQ es (db.map Tb.t) ns).2) else if (evsQ clsF es db (colQ es (db.map Tb.t) ns).1 ns []).2 ≠ 0 then ([], (evsQ clsF es db (colQ es (db.map Tb.t) ns).1 ns []).2) else (sortR ((evsQ clsF es db (colQ es (db.map Tb.t) ns).1 ns []).1.getLastD []), 0) from rfl)
  have HZ := Lib.hid hZ
  clear hn hl hdb hU hG hx hT hbd hs hZ
  obtain ⟨n, hn⟩ : ∃ n, n = es.length := ⟨_, rfl⟩
  obtain ⟨m, hm⟩ : ∃ m, m = db.length := ⟨_, rfl⟩
  obtain ⟨r, hr⟩ : ∃ r, r = ns.length := ⟨_, rfl⟩
  have HM := Lib.hid hm
  rw [← hn] at HCQ HEQ ⊢
  rw [← hm] at HEQ HDB hdl ld1 ⊢
  rw [← hr] at HCQ HEQ HGD HLN ⊢
  clear hn hm hr ln1 ln2 le1 le2
  unfold maxLen at ld2
  obtain ⟨w0, hw0⟩ : ∃ w0, w0 = w.alloc (.cells #[.slice nd r ncap, .slice ad n cap] 25) := ⟨_, rfl⟩
  have HW0 := Lib.hid hw0
  have EX := Lib.hid (show Ext w w0 by rw [hw0]; exact (Ext.refl _).alloc _ _)
  have hb0 : w0.cell? ⟨w.heap.size, 0, none⟩ = some (.slice nd r ncap) := by rw [hw0]; exact al0 _ _ _ _
  have hb1 : w0.cell? ⟨w.heap.size, 1, none⟩ = some (.slice ad n cap) := by rw [hw0]; exact al1 _ _ _ _
  have hsz : w0.heap.size = w.heap.size + 1 := by rw [hw0]; simp
  have HSZ := Lib.hid hsz
  clear hw0
  go_enter Tryz.func19, Tryz.ntmps19
  go_wp2_with (at_make; rw [← HW0.out]; refine makeG tTt rfl _ _ rfl w0 (Ext.refl _) (m : Int) (m : Int) m rfl rfl rfl rfl (by omega) ?_; intro w1 hA hE1; have HA := Lib.hid hA; clear hA)
  go_loopw [17] (TbR w0 S w db) (fun i _ => m - (intOf i).toNat)
  case atStart =>
    refine ⟨0, [], Nat.zero_le _, rfl, rfl, ?_, rfl, fun q hq => (by cases hq)⟩
    rw [fil_nil, ← HM.out]; exact HA.out
  case round =>
    obtain ⟨k, qs, hk, rfl, hql, hA2, hmap, hrd⟩ := hrel
    have hkm : k ≤ m := by rw [HM.out]; exact hk
    rw [← HM.out] at hA2
    have HEw := Lib.hid (EX.out.trans hA2.2)
    have HRD := Lib.hid hrd
    have HMP := Lib.hid hmap
    have HQL := Lib.hid hql
    have HAA := Lib.hid hA2
    by_cases hlt : k < m
    · have hlt' : k < db.length := by rw [← HM.out]; exact hlt
      obtain ⟨g, o, a, ka, b, kb, rfl, d0', d1', d2', hr1, _⟩ := rd_Tb HDB.out k hlt'
      have d0 := HEw.out.keeps d0'
      have d1 := HEw.out.keeps d1'
      have d2 := HEw.out.keeps d2'
      clear d0' d1' d2'
      have hst : (db.map Tb.t).take (k + 1) = (db.map Tb.t).take k ++ [db[k].t] := by
        rw [List.take_succ_eq_append_getElem (by rw [List.length_map]; exact hlt'), List.getElem_map]
      generalize db[k] = y at *
      obtain ⟨⟨ys, yks⟩, yl⟩ := y
      simp only at d0 d1 d2 hst hr1
      have hfl : (fil qs m tTt.z).length = m := fil_len _ _ _ (by omega)
      have hft : k < (fil qs m tTt.z).length := by omega
      have hz := fil_at qs m k tTt.z hql hlt hft
      have z0 : wr.cell? ⟨w0.heap.size, k * 2, none⟩ = some (sv []) := hA2.cell k 0 (sv []) hft (by rw [hz]; rfl)
      have z1 : wr.cell? ⟨w0.heap.size, k * 2 + 1, none⟩ = some (.slice none 0 0) := hA2.cell k 1 (.slice none 0 0) hft (by rw [hz]; rfl)
      have y0 := hA2.frozen (k * 2)
      have y1 := hA2.frozen (k * 2 + 1)
      have s1 := hA2.lo.2
      obtain ⟨yn, hyn⟩ : ∃ yn, yn = yks.length := ⟨_, rfl⟩
      obtain ⟨yl2, hyl2⟩ : ∃ yl2, yl2 = yl.length := ⟨_, rfl⟩
      rw [← hyn] at d1 hr1
      rw [← hyl2] at d2
      have HST := Lib.hid hst
      have HR1 := Lib.hid hr1
      have HL := Lib.hid hlt'
      have HFT := Lib.hid hft
      have HFS := Lib.hid (fil_set qs m k tTt.z (⟨a, yn, ka, ⟨ys, yks⟩⟩ : TtP) hql hlt)
      clear hst hr1 hyn hyl2 hA2 hfl hft hz hql hmap hrd
      rw [hsz] at z0 z1 y0 y1 s1
      go_wp2_with fail
      go_roundw
      case rel =>
        refine ⟨k + 1, qs ++ [⟨a, yn, ka, ⟨ys, yks⟩⟩], HL.out, by go_num, by rw [List.length_append, HQL.out]; rfl, ?_, ?_, fun q hq => ?_⟩
        · rw [← HM.out, ← HFS.out]
          have h := (HAA.out.putT k ⟨a, yn, ka, ⟨ys, yks⟩⟩ HFT.out)
          have h := h.ext ((Ext.refl _).alloc #[sv ys, .slice a yn ka, .slice b yl2 kb] 42)
          rw [HSZ.out] at h ⊢
          exact h
        · rw [List.map_append, HMP.out, HST.out]; rfl
        · rcases List.mem_append.1 hq with hq | hq
          · exact HRD.out q hq
          · simp only [List.mem_singleton] at hq; subst hq; exact HR1.out
      case measure => simp [intOf]; omega
    · obtain rfl : k = m := by omega
      have hRT : RdT S wr (.slice (some ⟨w0.heap.size, 0, none⟩) k k) (db.map Tb.t) := by
        refine ⟨qs, hA2.rdTake hql (Nat.le_refl _), fun q hq => rdI_ok.ext (hrd q hq) HEw.out, ?_⟩
        rw [hmap]; exact List.take_of_length_le (by rw [List.length_map, ← HM.out]; exact Nat.le_refl _)
      rw [hsz] at hRT
      have HCK := Lib.hid (HCQ.out _ wr HEw.out hRT)
      have f0 := hA2.2.keeps hb0
      have f1 := hA2.2.keeps hb1
      generalize colQ es (db.map Tb.t) ns = cq at HCK HEQ HGD HLN HWD HQ
      obtain ⟨cols, ce⟩ := cq
      have HEX := Lib.hid hA2.2
      clear hRT hA2 hql hmap hrd HRD HMP HQL HAA HCQ hkm hlt
      by_cases he : ce = 0
      · subst he
        have HEQ2 := Lib.hid (fun vc w' hE hc => HEQ.out cols vc w' hE hc rfl)
        have HGD2 := Lib.hid (HGD.out cols rfl)
        obtain ⟨hl1, hl2, hl3, _⟩ := HLN.out rfl
        have HL1 := Lib.hid (show cols.length = r from hl1)
        have HW2 := Lib.hid (show ∀ c ∈ cols, c.length ≤ 64 from HWD.out)
        have hq2 := HQ.out
        rw [if_neg (by simp)] at hq2
        simp only at hq2
        generalize evsQ clsF es db cols ns [] = ys at HEQ2 HGD2 hq2
        obtain ⟨done, de⟩ := ys
        simp only at hq2 HGD2
        clear HEQ HGD HQ HLN HWD hl1
        by_cases hd : de = 0
        · subst hd
          rw [if_neg (by simp)] at hq2
          have HQ2 := Lib.hid hq2
          obtain ⟨g1, g2⟩ := HGD2.out rfl
          simp only [List.length_nil, Nat.zero_add] at g1 g2
          obtain ⟨j, hj⟩ : ∃ j, done.length = j + 1 := ⟨done.length - 1, by omega⟩
          have hjl : j < done.length := by omega
          have hlast : done.getLastD [] = done[j] := by
            cases done with
            | nil => simp at hjl
            | cons x l => simp only [List.length_cons] at hj; simp [List.getLastD, List.getLast_eq_getElem, show l.length = j by omega]
          have hjx := g2 (j : Int) ((isIx_iff _ _).2 (by omega))
          have hat : atL done (j : Int) = done[j] := by simp [atL, List.getD, hjl]
          rw [hat] at hjx
          have hwd : (atC (cols.take r) (j : Int)).length ≤ 64 := by
            rw [atC_take _ _ _ (by omega)]
            unfold atC
            rw [getD_at cols [] _ (by have := HL1.out; omega)]; exact HW2.out _ (List.getElem_mem _)
          have HJX := Lib.hid hjx
          have HWJ := Lib.hid hwd
          have HLST := Lib.hid hlast
          have HJ := Lib.hid hj
          have HJL := Lib.hid hjl
          clear hq2 g1 g2 hjx hat hwd hlast hj hl2 hl3
          go_wp2_with fail
          refine HCK.out.mono ?_; rintro e w2 ⟨vc, rfl, hcr, hE2⟩
          have HE2 := Lib.hid (HEw.out.trans hE2)
          have e0 := hE2.keeps f0
          have e1 := hE2.keeps f1
          obtain ⟨ca, cc, rfl, _, _⟩ := hcr.shape
          have HCR := Lib.hid hcr
          clear hcr hE2 f0 f1
          go_wp2_with fail
          refine (HEQ2.out _ w2 HE2.out HCR.out).mono ?_; rintro e w3 ⟨vr, rfl, hrr, hE3⟩
          have HE3 := Lib.hid (HE2.out.trans hE3)
          have hrr : RdS RdR S w3 vr done := hrr
          obtain ⟨ra, rc, rfl, rl1, rl2⟩ := hrr.shape
          obtain ⟨g, o, xa, xc, rfl, dd, hrow⟩ := hrr.at rdR_ok j HJL.out
          obtain ⟨ps, p1, p2, p3, p4⟩ := hrow
          have hpl : ps.length = done[j].length := (rows_len ps).symm.trans (congrArg List.length p4)
          have HSRT := Lib.hid (sort_prg ps _ w3 p1 (fun p hp => (p3 p hp).1) (by rw [hpl]; have := HJX.out.1; omega) (fun p hp => by
            have hb := HJX.out.2 p.r (by rw [← p4]; exact List.mem_map_of_mem hp)
            have h1 := hb.wd
            have h2 := hb.tl HZ.out
            have := HWJ.out
            exact ⟨by omega, by omega⟩))
          have HP4 := Lib.hid p4
          have HQ3 := Lib.hid (show evQ clsF es db ns = (sortR (rows ps), 0) by rw [HQ2.out, HLST.out, HP4.out])
          simp only [HJ.out] at rl1 ⊢
          unfold maxLen at rl2
          have e3 : ((j + 1 : Nat) : Int) - 1 = (j : Int) := by omega
          have e4 : ((j : Int) + 1) - 1 = (j : Int) := by omega
          generalize done[j] = dj at *
          obtain ⟨dn, hdn⟩ : ∃ dn, dn = dj.length := ⟨_, rfl⟩
          rw [← hdn] at dd HSRT
          clear hrr p1 p2 p3 p4 hpl hdn hE3 HJX HLST
          go_wp2_with fail
          refine HSRT.out.mono ?_; rintro e w4 ⟨v4, qs4, rfl, hr4, ha4, hs4, hE4⟩
          have HS4 := Lib.hid hs4
          have HR4 := Lib.hid hr4
          have HA4 := Lib.hid ha4
          clear hs4 hr4 ha4
          go_wp2_with fail
          go_ret2
          rw [HQ3.out]
          exact ⟨v4, qs4, rfl, HR4.out, HA4.out, HS4.out, HE3.out.trans hE4⟩
        · rw [if_pos (by simpa using hd)] at hq2
          have HQ2 := Lib.hid hq2
          have hd' : (de == 0) = false := by simpa using hd
          clear hq2 hd hl2 hl3
          go_wp2_with fail
          refine HCK.out.mono ?_; rintro e w2 ⟨vc, rfl, hcr, hE2⟩
          have HE2 := Lib.hid (HEw.out.trans hE2)
          have e0 := hE2.keeps f0
          have e1 := hE2.keeps f1
          obtain ⟨ca, cc, rfl, _, _⟩ := hcr.shape
          have HCR := Lib.hid hcr
          clear hcr hE2 f0 f1
          go_wp2_with fail
          refine (HEQ2.out _ w2 HE2.out HCR.out).mono ?_; rintro e w3 ⟨vr, rfl, hrr, hE3⟩
          have HE3 := Lib.hid (HE2.out.trans hE3)
          clear hrr hE3
          go_wp2_with fail
          go_ret2
          exact EvP.err HQ2.out HE3.out
      · have hq2 := HQ.out
        rw [if_pos (by simpa using he)] at hq2
        have HQ2 := Lib.hid hq2
        have he' : (ce == 0) = false := by simpa using he
        clear hq2 he
        go_wp2_with fail
        refine HCK.out.mono ?_; rintro e w2 ⟨vc, rfl, hcr, hE2⟩
        have HE2 := Lib.hid (HEw.out.trans hE2)
        clear hcr hE2
        go_wp2_with fail
        go_ret2
        exact EvP.err HQ2.out HE2.out
end Go.Proofs.YtfojeajmonnifaaGreatDoor
/- The laws' tables: Kinds, Types, RowDB. -/
namespace Go.Proofs.YtfojeajmonnifaaGreatDoor
open Go.ChangeShapes Go.WideShapes Go.ChangeAt Go.RowKit

/-- every block -/
def UU : Nat → Prop := fun _ => True
theorem in_UU (u : Value) : In UU u := fun _ _ _ => trivial
theorem up_UU (w : World) : Up UU w := fun _ _ => trivial
def tts : List Tt := [⟨[114], [1, 2]⟩, ⟨[115], [1, 2]⟩]
theorem kinds_prg (w : World) : Calls Tryz.prog 31 #[] w fun e w' => ∃ a c, e = .returned (.slice a 2 c) ∧ RdG w' (.slice a 2 c) ([1, 2] : List Int) ∧ Ext w w' := by
  go_enter Tryz.func31, Tryz.ntmps31
  go_wp2_with fail
  go_ret
  exact ⟨_, _, rfl, rd_litG w ([1, 2] : List Int) #[.int .i64 1, .int .i64 2] 3 _ 2 rfl rfl (by simp) rfl, (Ext.refl _).alloc _ _⟩
theorem types_prg (w : World) : Calls Tryz.prog 25 #[] w fun e w' => ∃ v, e = .returned v ∧ RdT UU w' v tts ∧ Ext w w' := by
  have HK := Lib.hid (fun w => kinds_prg w)
  go_enter Tryz.func25, Tryz.ntmps25
  go_wp2_with fail
  refine (HK.out _).mono ?_; rintro e w1 ⟨a1, c1, rfl, h1, hE1⟩
  go_wp2_with fail
  refine (HK.out _).mono ?_; rintro e w2 ⟨a2, c2, rfl, h2, hE2⟩
  go_wp2_with fail
  go_ret
  refine ⟨_, rfl, ⟨[⟨a1, 2, c1, ⟨[114], [1, 2]⟩⟩, ⟨a2, 2, c2, ⟨[115], [1, 2]⟩⟩], rd_litG w2 ([⟨a1, 2, c1, ⟨[114], [1, 2]⟩⟩, ⟨a2, 2, c2, ⟨[115], [1, 2]⟩⟩] : List TtP) #[sv [114], .slice a1 2 c1, sv [115], .slice a2 2 c2] 39 _ 2 rfl rfl (by simp) rfl, fun q hq => ?_, rfl⟩, (hE1.trans hE2).alloc _ _⟩
  simp only [List.mem_cons, List.not_mem_nil, or_false] at hq
  rcases hq with rfl | rfl
  · exact ⟨(h1.ext hE2).ext ((Ext.refl _).alloc _ _), in_UU _⟩
  · exact ⟨h2.ext ((Ext.refl _).alloc _ _), in_UU _⟩
/-- the two tables with these rows -/
def dbs (a b : List R) : List Tb := [⟨⟨[114], [1, 2]⟩, a⟩, ⟨⟨[115], [1, 2]⟩, b⟩]
set_option maxHeartbeats 4000000 in
set_option maxRecDepth 100000 in
theorem rowdb_prg (la lb : List R) (va vb : Value) (w : World) (ha : RdR UU w va la) (hb : RdR UU w vb lb) : Calls Tryz.prog 23 #[va, vb] w fun e w' => ∃ v, e = .returned v ∧ RdB9 UU w' v (dbs la lb) ∧ Ext w w' := by
  obtain ⟨xa, xc, rfl⟩ := rdR_ok.shape ha
  obtain ⟨ya, yc, rfl⟩ := rdR_ok.shape hb
  have HA := Lib.hid ha
  have HB := Lib.hid hb
  have HT := Lib.hid (fun w => types_prg w)
  clear ha hb
  obtain ⟨n, hn⟩ : ∃ n, n = la.length := ⟨_, rfl⟩
  obtain ⟨m, hm⟩ : ∃ m, m = lb.length := ⟨_, rfl⟩
  rw [← hn] at HA ⊢
  rw [← hm] at HB ⊢
  clear hn hm
  go_enter Tryz.func23, Tryz.ntmps23
  go_wp2_with fail
  refine (HT.out _).mono ?_; rintro e w1 ⟨v, rfl, hT, hE⟩
  obtain ⟨ad, cap, rfl, _, _⟩ := hT.shape
  obtain ⟨g, o, a1, k1, rfl, c0, c1, r1⟩ := rd_Tt hT 0 (by simp [tts])
  obtain ⟨g', o', a2, k2, e', d0, d1, r2⟩ := rd_Tt hT 1 (by simp [tts])
  cases e'
  simp only [tts, List.getElem_cons_zero, List.getElem_cons_succ, List.length_cons, List.length_nil, Nat.zero_add, Nat.zero_mul, Nat.add_zero, Nat.one_mul] at c0 c1 d0 d1 r1 r2 ⊢
  have C0 := Lib.hid c0
  have C1 := Lib.hid c1
  have D0 := Lib.hid d0
  have D1 := Lib.hid d1
  have HE := Lib.hid hE
  have R1 := Lib.hid r1
  have R2 := Lib.hid r2
  clear hT hE r1 r2
  go_wp2_with fail
  go_region_held3 (fun w' => w'.cell? ⟨g, o, none⟩ = some (sv [114]) ∧ w'.cell? ⟨g, o + 1, none⟩ = some (.slice a1 2 k1) ∧ w'.cell? ⟨g, o + 2, none⟩ = some (sv [115]) ∧ w'.cell? ⟨g, o + 2 + 1, none⟩ = some (.slice a2 2 k2)) (first | exact ⟨C0.out, C1.out, D0.out, D1.out⟩ | go_keep) (fail)
  all_goals
    go_wp2_with fail
    go_ret
    have hEx := (Ext.refl w1).alloc #[sv [114], .slice a1 2 k1, .slice xa n xc, sv [115], .slice a2 2 k2, .slice ya m yc] 42
    refine ⟨_, rfl, ⟨[⟨⟨a1, 2, k1, xa, n, xc⟩, ⟨⟨[114], [1, 2]⟩, la⟩⟩, ⟨⟨a2, 2, k2, ya, m, yc⟩, ⟨⟨[115], [1, 2]⟩, lb⟩⟩], rd_litG w1 ([⟨⟨a1, 2, k1, xa, n, xc⟩, ⟨⟨[114], [1, 2]⟩, la⟩⟩, ⟨⟨a2, 2, k2, ya, m, yc⟩, ⟨⟨[115], [1, 2]⟩, lb⟩⟩] : List TbP) #[sv [114], .slice a1 2 k1, .slice xa n xc, sv [115], .slice a2 2 k2, .slice ya m yc] 42 _ 2 rfl rfl (by simp) rfl, fun q hq => ?_, rfl⟩, HE.out.trans hEx⟩
    simp only [List.mem_cons, List.not_mem_nil, or_false] at hq
    rcases hq with rfl | rfl
    · exact ⟨rdI_ok.ext R1.out hEx, rdR_ok.ext HA.out (HE.out.trans hEx)⟩
    · exact ⟨rdI_ok.ext R2.out hEx, rdR_ok.ext HB.out (HE.out.trans hEx)⟩
end Go.Proofs.YtfojeajmonnifaaGreatDoor
/- awake's queries, in plain lists. -/
namespace Go.Proofs.YtfojeajmonnifaaGreatDoor

def aq1 : List Nd := [⟨1, 0, 0, 0, [114], [], []⟩, ⟨10, 0, 0, 0, [], [], [(1, 0)]⟩]
def aq2 : List Nd := [⟨1, 0, 0, 0, [114], [], []⟩, ⟨1, 0, 0, 0, [115], [], []⟩, ⟨5, 0, 1, 0, [], [], []⟩]
def ax2 : List X := [⟨1, 0, 0, 0, ⟨3, 1, []⟩⟩]
theorem sort_one (r : R) : sortR [r] = [r] := sortR_self (List.pairwise_singleton _ _)
theorem linL_nil : linL [] = [] := by
  have h : ∀ c, ¬ c ∈ linL [] := fun c hc => by have := (linL_mem [] c).1 hc; cases this
  exact List.eq_nil_iff_forall_not_mem.2 h
theorem aw_c1 : colQ [] (dbs [] [] |>.map Tb.t) aq1 = ([[1, 2], [1]], 0) := by decide
theorem aw_c2 (a b : List R) : colQ ax2 (dbs a b |>.map Tb.t) aq2 = ([[1, 2], [1, 2], [1, 2, 1, 2]], 0) := by
  show colQ ax2 [⟨[114], [1, 2]⟩, ⟨[115], [1, 2]⟩] aq2 = _
  decide
theorem aw_c3 : chkQ ax2 [] aq2 = ([], 8) := by decide
theorem aw_e1 : evQ clsF [] (dbs [] []) aq1 = ([⟨[⟨1, 0, []⟩], []⟩], 0) := by
  unfold evQ
  rw [aw_c1]
  have e : evsQ clsF [] (dbs [] []) [[1, 2], [1]] aq1 [] = ([[], [⟨[⟨1, 0, []⟩], linR []⟩]], 0) := by rfl
  simp only [e]
  rw [show linR [] = [] from linL_nil]
  show (sortR [⟨[⟨1, 0, []⟩], []⟩], (0 : Int)) = _
  rw [sort_one]
theorem aw_e2 (x y : V) (t : List Int) : evQ clsF ax2 (dbs [⟨[x, y], t⟩] []) aq2 = ([⟨[x, y, nul, nul], t⟩], 0) := by
  unfold evQ
  rw [aw_c2]
  have e : evsQ clsF ax2 (dbs [⟨[x, y], t⟩] []) [[1, 2], [1, 2], [1, 2, 1, 2]] aq2 [] = ([[⟨[x, y], t⟩], [], [⟨[x, y, nul, nul], t⟩]], 0) := by rfl
  simp only [e]
  show (sortR [⟨[x, y, nul, nul], t⟩], (0 : Int)) = _
  rw [sort_one]
end Go.Proofs.YtfojeajmonnifaaGreatDoor
/- The laws' IntValue. -/
namespace Go.Proofs.YtfojeajmonnifaaGreatDoor
open Go.ChangeShapes Go.WideShapes Go.ChangeAt Go.RowKit

set_option maxHeartbeats 1000000 in
theorem int_val (z : Int) (w : World) : Calls Tryz.prog 33 #[.int .i64 z] w fun e w' => e = .returned (vv ⟨1, z, []⟩) ∧ Ext w w' := by
  go_enter Tryz.func33, Tryz.ntmps33
  go_wp2_with fail
  exact bodyPost_ret (v := vv ⟨1, z, []⟩) (by simp [results, Tryz.results33, go_sem, vv]) rfl ⟨rfl, by repeat (first | exact Ext.refl _ | refine Ext.alloc ?_ _ _ | refine Ext.setNew ?_ _ _ (by simp; try omega) _)⟩
end Go.Proofs.YtfojeajmonnifaaGreatDoor
/- The laws' builders of values, periods and rows of two values. -/
namespace Go.Proofs.YtfojeajmonnifaaGreatDoor
open Go.ChangeShapes Go.WideShapes Go.ChangeAt Go.RowKit

theorem own_litB {α : Type} [Enc α] (e : TypeId) {W X : World} (h : Ext W X) (l : List α) (c : Array Value) (n k : Nat) (hn : n = X.heap.size) (hk : k = l.length) (hl : l.length ≤ 1000) (hc : c.toList = cellsG l) : OwnG e W (X.alloc (.cells c e)) (.slice (some ⟨n, 0, none⟩) k k) l := by
  subst hn hk
  have hs : c.size = l.length * Enc.sz α := by rw [← Array.length_toList, hc, cellsG_len]
  have := World.ownsRow_lit (base := W.heap.size) (e := e) (size := Enc.sz α) X c l.length h.2.2 (by unfold maxLen; omega) hs
  rw [hc] at this
  exact ⟨this, h.alloc _ _⟩
/-- some value -/
def SmV (v : V) : Prop := (0 ≤ v.k ∧ v.k ≤ 2) ∧ (-1 ≤ v.n ∧ v.n ≤ 1) ∧ v.s.length ≤ 2
def BvP (w : World) (e : Ending) (w' : World) : Prop := ∃ v, e = .returned (vv v) ∧ SmV v ∧ Ext w w'
theorem wrapU (m : Int) (h0 : 0 ≤ m) (h1 : m ≤ 65535) : IntKind.u16.wrap m = m := by simp only [IntKind.wrap, IntKind.bits, IntKind.signed]; simp; omega
theorem wrapI (m : Int) (h0 : -9223372036854775808 ≤ m) (h1 : m ≤ 9223372036854775807) : IntKind.i64.wrap m = m := by simp only [IntKind.wrap, IntKind.bits, IntKind.signed]; simp; omega
set_option maxHeartbeats 4000000 in
theorem value0 (x : Int) (h0 : 0 ≤ x) (_h1 : x ≤ 65535) (w : World) : Calls Tryz.prog 65 #[.int .i64 0, .int .u16 x] w (BvP w) := by
  obtain ⟨m, hm⟩ : ∃ m, m = x % 7 := ⟨_, rfl⟩
  obtain ⟨q, hq⟩ : ∃ q, q = x % 3 := ⟨_, rfl⟩
  have hm1 : Int.tmod x 7 = m := by rw [Int.tmod_eq_emod_of_nonneg h0]; exact hm.symm
  have hq1 : Int.tmod x 3 = q := by rw [Int.tmod_eq_emod_of_nonneg h0]; exact hq.symm
  have hm2 := hm.symm
  have hq2 := hq.symm
  have hmb : 0 ≤ m ∧ m ≤ 6 := by omega
  have hqb : 0 ≤ q ∧ q ≤ 2 := by omega
  have hwm := wrapU m (by omega) (by omega)
  have hwq := wrapU q (by omega) (by omega)
  have hwi := wrapI q (by omega) (by omega)
  clear hm hq
  by_cases h6 : m = 6
  · subst h6
    go_enter Tryz.func65, Tryz.ntmps65
    go_wp2_with fail
    exact bodyPost_ret (v := vv ⟨0, 0, []⟩) (by simp [results, Tryz.results65, go_sem, vv]) rfl ⟨_, rfl, by (refine ⟨⟨?_, ?_⟩, ⟨?_, ?_⟩, ?_⟩ <;> simp <;> omega), by repeat (first | exact Ext.refl _ | refine Ext.alloc ?_ _ _ | refine Ext.setNew ?_ _ _ (by simp; try omega) _)⟩
  · have h6' : (m == 6) = false := by simpa using h6
    go_enter Tryz.func65, Tryz.ntmps65
    go_wp2_with fail
    refine (int_val (q - 1) _).mono ?_; rintro e w1 ⟨rfl, hE⟩
    have k0 := hE.keeps (al_c w #[.int .i64 0, .int .i64 0, .string { data := #[] }] 74 0 _ rfl)
    have k1 := hE.keeps (al_c w #[.int .i64 0, .int .i64 0, .string { data := #[] }] 74 1 _ rfl)
    have k2 := hE.keeps (al_c w #[.int .i64 0, .int .i64 0, .string { data := #[] }] 74 2 _ rfl)
    have kf : ∀ j, w1.frozen? ⟨w.heap.size, j, none⟩ = false := fun j => (hE.2.1 ⟨w.heap.size, j, none⟩ (by simp)).trans (by simp [World.frozen?_alloc_at])
    have kf0 := kf 0
    have kf1 := kf 1
    have kf2 := kf 2
    have hsz : w.heap.size < w1.heap.size := World.block_lt_of_cell? _ _ k0
    have hE9 : Ext w w1 := ((Ext.refl _).alloc _ _).trans hE
    clear hE kf
    go_wp2_with fail
    exact bodyPost_ret (v := vv ⟨1, q - 1, []⟩) (by simp [results, Tryz.results65, go_sem, k0, k1, k2]) rfl ⟨_, rfl, by (refine ⟨⟨?_, ?_⟩, ⟨?_, ?_⟩, ?_⟩ <;> simp <;> omega), by repeat (first | exact hE9 | exact Ext.refl _ | refine Ext.alloc ?_ _ _ | refine Ext.setNew ?_ _ _ (by simp; try omega) _)⟩
set_option maxHeartbeats 4000000 in
theorem value1 (x : Int) (h0 : 0 ≤ x) (_h1 : x ≤ 65535) (w : World) : Calls Tryz.prog 65 #[.int .i64 1, .int .u16 x] w (BvP w) := by
  obtain ⟨m, hm⟩ : ∃ m, m = x % 7 := ⟨_, rfl⟩
  obtain ⟨q, hq⟩ : ∃ q, q = x % 3 := ⟨_, rfl⟩
  have hm1 : Int.tmod x 7 = m := by rw [Int.tmod_eq_emod_of_nonneg h0]; exact hm.symm
  have hq1 : Int.tmod x 3 = q := by rw [Int.tmod_eq_emod_of_nonneg h0]; exact hq.symm
  have hm2 := hm.symm
  have hq2 := hq.symm
  have hmb : 0 ≤ m ∧ m ≤ 6 := by omega
  have hqb : 0 ≤ q ∧ q ≤ 2 := by omega
  have hwm := wrapU m (by omega) (by omega)
  have hwq := wrapU q (by omega) (by omega)
  have hwi := wrapI q (by omega) (by omega)
  clear hm hq
  by_cases h6 : m = 6
  · subst h6
    go_enter Tryz.func65, Tryz.ntmps65
    go_wp2_with fail
    exact bodyPost_ret (v := vv ⟨0, 0, []⟩) (by simp [results, Tryz.results65, go_sem, vv]) rfl ⟨_, rfl, by (refine ⟨⟨?_, ?_⟩, ⟨?_, ?_⟩, ?_⟩ <;> simp <;> omega), by repeat (first | exact Ext.refl _ | refine Ext.alloc ?_ _ _ | refine Ext.setNew ?_ _ _ (by simp; try omega) _)⟩
  · have h6' : (m == 6) = false := by simpa using h6
    rcases (show q = 0 ∨ q = 1 ∨ q = 2 by omega) with rfl | rfl | rfl
    · go_enter Tryz.func65, Tryz.ntmps65
      go_wp2_with fail
      exact bodyPost_ret (v := vv ⟨2, 0, []⟩) (by simp [results, Tryz.results65, go_sem, vv]) rfl ⟨_, rfl, by (refine ⟨⟨?_, ?_⟩, ⟨?_, ?_⟩, ?_⟩ <;> simp <;> omega), by repeat (first | exact Ext.refl _ | refine Ext.alloc ?_ _ _ | refine Ext.setNew ?_ _ _ (by simp; try omega) _)⟩
    · go_enter Tryz.func65, Tryz.ntmps65
      go_wp2_with fail
      exact bodyPost_ret (v := vv ⟨2, 0, [97]⟩) (by simp [results, Tryz.results65, go_sem, vv]) rfl ⟨_, rfl, by (refine ⟨⟨?_, ?_⟩, ⟨?_, ?_⟩, ?_⟩ <;> simp <;> omega), by repeat (first | exact Ext.refl _ | refine Ext.alloc ?_ _ _ | refine Ext.setNew ?_ _ _ (by simp; try omega) _)⟩
    · go_enter Tryz.func65, Tryz.ntmps65
      go_wp2_with fail
      exact bodyPost_ret (v := vv ⟨2, 0, [98, 39]⟩) (by simp [results, Tryz.results65, go_sem, vv]) rfl ⟨_, rfl, by (refine ⟨⟨?_, ?_⟩, ⟨?_, ?_⟩, ?_⟩ <;> simp <;> omega), by repeat (first | exact Ext.refl _ | refine Ext.alloc ?_ _ _ | refine Ext.setNew ?_ _ _ (by simp; try omega) _)⟩
/-- some values of the call's own -/
def BwP (w : World) (e : Ending) (w' : World) : Prop := ∃ (v : Value) (l : List V), e = .returned v ∧ OwnG tV.e w w' v l ∧ l.length = 2 ∧ ∀ v ∈ l, SmV v
set_option maxHeartbeats 4000000 in
theorem vals_law (x y : Int) (hx0 : 0 ≤ x) (hx1 : x ≤ 65535) (hy0 : 0 ≤ y) (hy1 : y ≤ 65535) (w : World) : Calls Tryz.prog 36 #[.int .u16 x, .int .u16 y] w (BwP w) := by
  have H0 := Lib.hid (fun w => value0 x hx0 hx1 w)
  have H1 := Lib.hid (fun w => value1 y hy0 hy1 w)
  go_enter Tryz.func36, Tryz.ntmps36
  go_wp2_with fail
  refine (H0.out _).mono ?_; rintro e w1 ⟨⟨ak, an, az⟩, rfl, sm1, hE⟩
  go_wp2_with fail
  refine (H1.out _).mono ?_; rintro e w2 ⟨⟨bk, bn, bz⟩, rfl, sm2, hE2⟩
  have hE3 := hE.trans hE2
  have SM1 := Lib.hid sm1
  have SM2 := Lib.hid sm2
  clear sm1 sm2
  go_wp2_with fail
  go_ret
  exact ⟨_, [⟨ak, an, az⟩, ⟨bk, bn, bz⟩], rfl, own_litB _ hE3 _ _ _ _ rfl rfl (by simp) rfl, rfl, fun v hv => by simp only [List.mem_cons, List.not_mem_nil, or_false] at hv; rcases hv with rfl | rfl; exact SM1.out; exact SM2.out⟩
/-- some period -/
def BpP (w : World) (e : Ending) (w' : World) : Prop := ∃ a b, e = .returned (pv a b) ∧ Ext w w'
end Go.Proofs.YtfojeajmonnifaaGreatDoor
