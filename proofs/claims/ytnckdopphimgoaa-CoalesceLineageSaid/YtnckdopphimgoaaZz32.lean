/- The program's normalForm, walked. -/
import Derived.Test.YtnckdopphimgoaaZz31
namespace Go.Proofs.Ytnckdopphimgoaa
open Go.ChangeShapes Go.WideShapes Go.ChangeAt Go.RowKit

theorem rd_consT {w : World} {v : Value} {x : TP} {l : List TP} (h : RdG w v (x :: l)) : ∃ g o cap, v = .slice (some ⟨g, o, none⟩) (l.length + 1) cap ∧ l.length + 1 ≤ cap ∧ cap ≤ maxLen ∧ w.cell? ⟨g, o, none⟩ = some x.h.x ∧ w.cell? ⟨g, o + 1, none⟩ = some (.int .i64 x.a) ∧ w.cell? ⟨g, o + 2, none⟩ = some (.int .i64 x.b) ∧ w.cell? ⟨g, o + 3, none⟩ = some x.h.y := by
  obtain ⟨ad, cap, rfl, h1, h2, h3, h4⟩ := h
  obtain ⟨g, o, rfl, c⟩ := h4 0 (by simp)
  simp only [Nat.zero_mul, Nat.add_zero] at c
  exact ⟨g, o, cap, rfl, by simpa using h1, h2, c 0 _ rfl, c 1 _ rfl, c 2 _ rfl, c 3 _ rfl⟩
def NfR (W : World) (T : List TP) (vr vn : Value) (wr : World) : Prop := ∃ A rest N, Hid (NfI T A rest N) ∧ RdG W vr rest ∧ OwnG tT.e W wr vn N ∧ Hid (∀ p ∈ N, RdT W p)
def NfR2 (W : World) (L : List (Int × Int)) (x : TP) (N : List TP) (vL vn i : Value) (wr : World) : Prop := ∃ k : Nat, k ≤ L.length ∧ i = .int .i64 k ∧ Duo tT.e tPe.e W wr vn vL (N ++ (L.take k).map (mkP x)) L
set_option maxHeartbeats 8000000 in
set_option maxRecDepth 100000 in
theorem form_prg (ps : List TP) (v : Value) (w : World) (h : RdG w v ps) (hI : RdTs w ps) (hl : ps.length ≤ 100000) : Calls Try.prog 17 #[v] w fun e w' => ∃ v' N, e = .returned v' ∧ OwnG tT.e w w' v' N ∧ RdTs w' N ∧ IsNf (ats (tus ps)) (tus N) ∧ N.length ≤ ps.length := by
  have H := Lib.hid h
  have HI := Lib.hid hI
  have HL := Lib.hid hl
  clear h hI hl
  go_enter Try.func17, Try.ntmps17
  go_wp2_with fail
  refine (hold_prg ps v w H.out (by have := HL.out; omega)).mono ?_; rintro e w1 ⟨v1, rfl, hO⟩
  have HO := Lib.hid hO
  have HI1 := Lib.hid (show RdTs w1 (ps.filter okT) from fun p hp => (HI.out p (List.mem_filter.1 hp).1).ext hO.2)
  have HL1 := Lib.hid (show (ps.filter okT).length ≤ ps.length from List.length_filter_le _ _)
  clear hO
  go_wp2_with fail
  refine (sort_tuples w w1 v1 _ HO.out (fun p hp => HI.out p (List.mem_filter.1 hp).1) (by have := HL1.out; have := HL.out; omega)).mono ?_; rintro e w2 ⟨rfl, T, hp, hs, hO2⟩
  have HT := Lib.hid (show SrtT T from hs)
  have HEW := Lib.hid hO2.2
  have HR2 := Lib.hid hO2.rd
  have HIT := Lib.hid (show RdTs w2 T from fun p hp' => (HI.out p (List.mem_filter.1 (hp.mem_iff.1 hp')).1).ext hO2.2)
  have HOK := Lib.hid (show ∀ p ∈ T, okP (p.a, p.b) from fun p hp' => (okV_iff _ _).1 (List.mem_filter.1 (hp.mem_iff.1 hp')).2)
  have HLT := Lib.hid (show T.length ≤ ps.length by rw [hp.length_eq]; exact HL1.out)
  have HAT := Lib.hid (show ∀ r t, ats (tus T) r t = ats (tus ps) r t from fun r t => by rw [← ats_hold ps]; exact ats_perm (hp.map _) r t)
  clear hp hs hO2 HO HI1 HL1 H HI
  go_wp2_with fail
  go_loopw [3, 4] (NfR w2 T) (fun vr _ _ => lenOf vr)
  case atStart => exact ⟨[], T, [], Lib.hid (NfI.start T), HR2.out, OwnG.nil _ _ _ (Ext.refl _), Lib.hid (fun p hp => absurd hp List.not_mem_nil)⟩
  case round =>
    obtain ⟨A, rest, N, HN, hr, hO, HRN⟩ := hrel
    have hlen : A.length + rest.length = T.length := by have := congrArg List.length HN.out.all; rw [List.length_append] at this; omega
    have hNl := HN.out.len
    have hTl := HLT.out
    have hpl := HL.out
    cases rest with
    | nil =>
      obtain ⟨ad, cap, e0, h1, h2, _⟩ := id hr
      simp only [List.length_nil] at e0
      subst e0
      have HO := Lib.hid hO
      have HF := Lib.hid (HN.out.fin.cong HAT.out)
      have HNL := Lib.hid (show N.length ≤ ps.length by simp only [List.length_nil] at hlen; omega)
      clear hO hr hlen hNl hTl hpl
      go_wp2_with fail
      go_ret
      exact ⟨_, N, rfl, HO.out.base HEW.out, fun p hp => (HRN.out p hp).ext HO.out.2, HF.out, HNL.out⟩
    | cons x rest =>
      obtain ⟨g, o, cap, rfl, hc1, hc2, c0', c1', c2', c3'⟩ := rd_consT hr
      have HRR := Lib.hid hr
      have HIX := Lib.hid (show RdTs w2 (x :: rest) from fun p hp => HIT.out p (by rw [HN.out.all]; exact List.mem_append.2 (Or.inr hp)))
      have HOX := Lib.hid (show ∀ p ∈ x :: rest, okP (p.a, p.b) from fun p hp => HOK.out p (by rw [HN.out.all]; exact List.mem_append.2 (Or.inr hp)))
      obtain ⟨n, hn⟩ : ∃ n, n = rest.length := ⟨_, rfl⟩
      have HNN := Lib.hid hn
      have hnl : n + 1 ≤ 100000 := by simp only [List.length_cons] at hlen; omega
      have hNN : N.length ≤ 100000 := by omega
      unfold maxLen at hc2
      rw [← hn] at hc1 HRR
      simp only [← hn]
      have HO := Lib.hid hO
      have HK := Lib.hid (And.intro c0' c3')
      have hg2 : g < w2.heap.size := World.block_lt_of_cell? _ _ c0'
      clear hn hr hO hlen hNl hTl hpl c0' c1' c2' c3'
      go_wp2_with fail
      refine (size_prg (x :: rest) _ wr (HRR.out.ext HO.out.2) (HIX.out.ext HO.out.2) (by simp) (by have := HNN.out; simp only [List.length_cons]; omega)).mono ?_; rintro e w3 ⟨s, rfl, hGs, hE3⟩
      have HGS := Lib.hid hGs
      have hs1 : s ≤ n + 1 := by have := hGs.le; have := HNN.out; simp only [List.length_cons] at *; omega
      have hs0 : 1 ≤ s := hGs.pos
      have hsi0 : (0 : Int) ≤ (s : Int) := by omega
      have hsi1 : (s : Int) ≤ (cap : Int) := by omega
      have hsi2 : (s : Int) ≤ (n : Int) + 1 := by omega
      have HE3 := Lib.hid hE3
      have HRT := Lib.hid (HRR.out.take s (by have := HNN.out; simp only [List.length_cons]; omega))
      have HLS := Lib.hid (show ((x :: rest).take s).length = s by rw [List.length_take]; have := HNN.out; simp only [List.length_cons]; omega)
      clear hGs hE3
      go_wp2_with fail
      refine (levels_prg ((x :: rest).take s) _ w3 (HRT.out.ext (HO.out.2.trans HE3.out)) (by rw [HLS.out]; omega) (fun p hp => HOX.out p (List.mem_of_mem_take hp))).mono ?_; rintro e w4 ⟨v4, L, rfl, hOL, hLv, hLl⟩
      rw [HLS.out] at hLl
      have HSTEP := Lib.hid (HN.out.step HT.out (by simp) (by rfl) HGS.out hLv hLl)
      have HE4 := Lib.hid (HE3.out.trans hOL.2)
      have HDU := Lib.hid (show Duo tT.e tPe.e w2 w4 u4 v4 N L from ⟨HO.out.ext HE4.out, hOL.base (HO.out.2.trans HE3.out), fun kk hh e => by
        have h1 := HO.out.lt kk hh
        have h2 := (hOL.blk kk e).1
        have h3 := HE3.out.2.2
        omega⟩)
      obtain ⟨aL, cL, rfl, hL1, hL2⟩ := hOL.rd.shape
      obtain ⟨nl, hnl2⟩ : ∃ z, z = L.length := ⟨_, rfl⟩
      have HNL := Lib.hid hnl2
      unfold maxLen at hL2
      rw [← hnl2] at hL1 hLl HDU
      simp only [← hnl2]
      clear hnl2 hOL hLv
      go_wp2_with fail
      obtain ⟨wA, rfl⟩ : ∃ z, z = wr := ⟨_, rfl⟩
      go_loopw [4, 22] (NfR2 w2 L x N (.slice aL nl cL)) (fun _ i _ => nl - (intOf i).toNat)
      case atStart => exact ⟨0, Nat.zero_le _, rfl, by simpa using HDU.out⟩
      case round =>
        obtain ⟨k, hk, rfl, hDN⟩ := hrel
        have hkn : k ≤ nl := by rw [HNL.out]; exact hk
        by_cases hlt : k < nl
        · have hlt' : k < L.length := by rw [← HNL.out]; exact hlt
          have hrd := hDN.m.rd
          obtain ⟨gL, oL, rfl, cc⟩ := hrd.at k hlt'
          have d0 := cc 0 _ rfl
          have d1 := cc 1 _ rfl
          simp only [Enc.sz, Nat.add_zero] at d0 d1
          clear cc hrd
          have hk0 : (0 : Int) ≤ (k : Int) := by omega
          have hk1 : (k : Int) < (nl : Int) := by omega
          have hgn : (0 : Int) < (n : Int) + 1 := by omega
          have HML := Lib.hid (map_take (mkP x) hlt')
          have hml : (N ++ (L.take k).map (mkP x)).length ≤ 1000000 := by rw [List.length_append, List.length_map, List.length_take]; omega
          generalize L[k] = q at *
          obtain ⟨qa, qb⟩ := q
          simp only at d0 d1
          have e0 := hDN.l.2.keeps HK.out.1
          have e3 := hDN.l.2.keeps HK.out.2
          obtain ⟨⟨xa, xn, xc, xb, xm, xd⟩, xr, pa, pb⟩ := x
          simp only [Hd.x, Hd.y] at e0 e3
          have HDN := Lib.hid hDN
          have HMM := Lib.hid hml
          have HBL := Lib.hid hDN.l.lt
          have HBK := Lib.hid (fun kk hh => (hDN.l.blk kk hh).1)
          have hgw : w2.heap.size ≤ wr.heap.size := hDN.l.2.2.2
          clear hDN hml
          generalize hMe : N ++ (L.take k).map (mkP ⟨⟨xa, xn, xc, xb, xm, xd⟩, xr, pa, pb⟩) = M at *
          have HMQ := Lib.hid hMe
          clear hMe
          have B0 := al0 wr (.int .i64 qa) (.int .i64 qb) 28
          have B1 := al1 wr (.int .i64 qa) (.int .i64 qb) 28
          have EX : Ext wr (wr.alloc (.cells #[.int .i64 qa, .int .i64 qb] 28)) := (Ext.refl wr).alloc _ _
          have E0 := EX.keeps e0
          have E3 := EX.keeps e3
          go_wp2_with fail
          generalize wr.alloc (.cells #[.int .i64 qa, .int .i64 qb] 28) = w0 at *
          have K0 := Lib.hid B0
          have K1 := Lib.hid B1
          have K2 := Lib.hid E0
          have K3 := Lib.hid E3
          have hbx : wr.heap.size < w0.heap.size := World.block_lt_of_cell? _ _ B0
          have EA := Lib.hid (((Ext.refl w0).alloc #[.slice xa xn xc, .int .i64 qa, .int .i64 qb, .slice xb xm xd] 31).drew)
          have HD0 := Lib.hid (HDN.out.ext (EX.trans ((Ext.refl w0).alloc #[.slice xa xn xc, .int .i64 qa, .int .i64 qb, .slice xb xm xd] 31).drew))
          have HG2 := Lib.hid hg2
          clear B0 B1 E0 E3 d0 d1 e0 e3 EX
          go_region_held3 (fun w' => w'.cell? ⟨g, o, none⟩ = some (.slice xa xn xc) ∧ w'.cell? ⟨g, o + 3, none⟩ = some (.slice xb xm xd) ∧ w'.cell? ⟨wr.heap.size, 0, none⟩ = some (.int .i64 qa) ∧ w'.cell? ⟨wr.heap.size, 1, none⟩ = some (.int .i64 qb)) (first | exact ⟨K2.out, K3.out, K0.out, K1.out⟩ | exact ⟨EA.out.keeps K2.out, EA.out.keeps K3.out, EA.out.keeps K0.out, EA.out.keeps K1.out⟩ | exact ⟨r2, r3, r0, r1⟩ | go_keep)
            (first | (refine step_appGL tT rfl _ _ rfl w2 _ M rfl ?a1 _ [(⟨⟨xa, xn, xc, xb, xm, xd⟩, xr, qa, qb⟩ : TP)] rfl ?a2 ?a3 ?_; (case a1 => exact HD0.out.l); (case a2 => exact rd_litG w0 [(⟨⟨xa, xn, xc, xb, xm, xd⟩, xr, qa, qb⟩ : TP)] #[.slice xa xn xc, .int .i64 qa, .int .i64 qb, .slice xb xm xd] 31 _ 1 rfl rfl (by simp) rfl); (case a3 => have := HMM.out; simp; omega); intro v5 w5 hO5 hg5 hl5; have r0 := grow_cell hg5 (EA.out.keeps K0.out) (fun kk hh => by have := HBL.out kk hh; omega); have r1 := grow_cell hg5 (EA.out.keeps K1.out) (fun kk hh => by have := HBL.out kk hh; omega); have r2 := grow_cell hg5 (EA.out.keeps K2.out) (fun kk hh => by have := HBK.out kk hh; have := HG2.out; omega); have r3 := grow_cell hg5 (EA.out.keeps K3.out) (fun kk hh => by have := HBK.out kk hh; have := HG2.out; omega); have HD5 := Lib.hid (HD0.out.left hO5 hg5 hl5); clear hO5 hg5 hl5))
          all_goals
            go_wp2_with fail
            go_roundw
            case rel => exact ⟨k + 1, hlt', by go_num, by rw [HML.out, ← List.append_assoc, HMQ.out]; exact HD5.out⟩
            case measure => first | (simp [intOf]; done) | (simp [intOf]; omega)
        · have hke : k = nl := by omega
          have hall : L.take k = L := by rw [List.take_of_length_le]; rw [← HNL.out, hke]; exact Nat.le_refl _
          rw [hall] at hDN
          have HDN := Lib.hid hDN
          have HRD := Lib.hid (show RdG w2 (.slice (if cap = s then some ⟨g, o, none⟩ else some ⟨g, o + s * 4, none⟩) (n + 1 - s) (cap - s)) ((x :: rest).drop s) from rd_fromT HRR.out hs1)
          clear hDN hall
          subst hke
          go_wp2_with fail
          go_roundw
          case rel => exact ⟨A ++ (x :: rest).take s, (x :: rest).drop s, N ++ L.map (mkP x), HSTEP, HRD.out, HDN.out.l, Lib.hid (fun p hp => by
            rcases List.mem_append.1 hp with hp | hp
            · exact HRN.out p hp
            · obtain ⟨q, _, rfl⟩ := List.mem_map.1 hp
              exact HIX.out x (by simp))⟩
          case measure => first | (simp [lenOf]; done) | (simp [lenOf]; omega)
end Go.Proofs.Ytnckdopphimgoaa
