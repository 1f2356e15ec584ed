/- The program's levels. -/
import Derived.Test.YtnckdopphimgoaaZz25
import Derived.Test.YtnckdopphimgoaaZz27
namespace Go.Proofs.Ytnckdopphimgoaa
open Go.ChangeShapes Go.WideShapes Go.ChangeAt Go.RowKit

/-- v[1:], «as» the walk leaves it -/
theorem rd_tail {w : World} {g o n cap : Nat} {x : Int} {l : List Int} (h : RdG w (.slice (some ⟨g, o, none⟩) (n + 1) cap) (x :: l)) : RdG w (.slice (if cap = 1 then some ⟨g, o, none⟩ else some ⟨g, o + 1, none⟩) n (cap - 1)) l := by
  have hl := h.len
  have hn : n = l.length := by have := hl.1; simp at this; exact this
  by_cases hc : cap = 1
  · rw [if_pos hc]
    obtain rfl : l = [] := List.eq_nil_of_length_eq_zero (by omega)
    subst hn hc
    exact ⟨_, 0, rfl, Nat.le_refl _, Nat.zero_le _, (fun _ => rfl), fun i h => by simp at h⟩
  · rw [if_neg hc]
    have := h.drop (i := 1) (by omega)
    simpa [Enc.sz] using this
theorem rd_none {w : World} {v : Value} {l : List Int} (h : RdG w v l) (hl : l = []) : ∃ ad cap, v = .slice ad 0 cap := by
  obtain ⟨ad, cap, rfl, _⟩ := h
  subst hl
  exact ⟨ad, cap, rfl⟩
theorem rd_cons {w : World} {v : Value} {x : Int} {l : List Int} (h : RdG w v (x :: l)) : ∃ g o cap, v = .slice (some ⟨g, o, none⟩) (l.length + 1) cap ∧ l.length + 1 ≤ cap ∧ cap ≤ maxLen ∧ w.cell? ⟨g, o, none⟩ = some (.int .i64 x) := by
  obtain ⟨ad, cap, rfl, h1, h2, h3, h4⟩ := h
  obtain ⟨g, o, rfl, c⟩ := h4 0 (by simp)
  refine ⟨g, o, cap, rfl, by simpa using h1, h2, ?_⟩
  have := c 0 _ rfl
  simpa using this
theorem own_lastI {W w : World} {v : Value} {l : List Int} {x : Int} (h : OwnG tI.e W w v (l ++ [x])) : ∃ g cap, v = .slice (some ⟨g, 0, none⟩) (l.length + 1) cap ∧ l.length + 1 ≤ cap ∧ cap ≤ maxLen ∧ W.heap.size ≤ g ∧ w.cell? ⟨g, l.length, none⟩ = some (.int .i64 x) := by
  have hl : (l ++ [x]).length = l.length + 1 := by simp
  have hrd := h.rd
  rcases h.1.2 with ⟨rfl, h0⟩ | ⟨g, cap, cur, rfl, hb, hg, hnc, hcm, _⟩
  · omega
  · rw [hl] at hnc hrd ⊢
    refine ⟨g, cap, rfl, hnc, hcm, hb, ?_⟩
    obtain ⟨g', o', e, c⟩ := hrd.at l.length (by omega)
    simp only [Option.some.injEq, Addr.mk.injEq, and_true] at e
    obtain ⟨rfl, rfl⟩ := e
    have := c 0 _ rfl
    simpa [Enc.sz] using this
/-- the last element taken off again -/
theorem Duo.pop {β : Type} [Enc β] {e2 : TypeId} {W w : World} {a : Option Addr} {n cap : Nat} {u : Value} {l : List Int} {x : Int} {m : List β} (h : Duo tI.e e2 W w (.slice a n cap) u (l ++ [x]) m) : Duo tI.e e2 W w (.slice a l.length cap) u l m := by
  have := h.l.take l.length (by simp)
  rw [List.take_left'] at this
  · exact ⟨this, h.m, fun g hg => h.sep g (by rw [own_len a n l.length cap]; exact hg)⟩
  · rfl
/-- what holds while the ends are swept -/
def LvR (W : World) (f : Int → Nat) (N : Nat) (vs ve vo vp : Value) (wr : World) : Prop := ∃ op st en P, Hid (Sw f op st en P) ∧ RdG W vs st ∧ RdG W ve en ∧ Duo tI.e tPe.e W wr vo vp op P ∧ P.length + en.length ≤ N
set_option maxHeartbeats 8000000 in
set_option maxRecDepth 100000 in
theorem levels_prg (ps : List TP) (v : Value) (w : World) (h : RdG w v ps) (hl : ps.length ≤ 1000000) (hok : ∀ p ∈ ps, okP (p.a, p.b)) : Calls Try.prog 29 #[v] w fun e w' => ∃ v' L, e = .returned v' ∧ OwnG tPe.e w w' v' L ∧ IsLv (cov (prs (tus ps))) L ∧ L.length ≤ ps.length := by
  have H := Lib.hid h
  have HL := Lib.hid hl
  have HK := Lib.hid (show ∀ p ∈ prs (tus ps), okP p from fun p hp => by
    unfold prs tus at hp
    rw [List.map_map] at hp
    obtain ⟨q, hq, rfl⟩ := List.mem_map.1 hp
    exact hok q hq)
  obtain ⟨f, hf⟩ : ∃ f, f = cov (prs (tus ps)) := ⟨_, rfl⟩
  have HF := Lib.hid hf
  rw [← hf]
  clear h hl hok hf
  go_enter Try.func29, Try.ntmps29
  go_wp2_with fail
  refine (ends_prg ps v w H.out HL.out).mono ?_; rintro e w1 ⟨v1, v2, st0, en0, rfl, hS⟩
  have hstart : Sw f [] st0 en0 [] := by
    rw [HF.out]
    exact sw_start HK.out (by unfold prs tus; rw [List.map_map, List.map_map]; exact hS.p1) (by unfold prs tus; rw [List.map_map, List.map_map]; exact hS.p2) hS.s1 hS.s2
  have hlen : en0.length ≤ 1000000 := by have := hS.p2.length_eq; rw [List.length_map] at this; have := HL.out; omega
  have HN := Lib.hid (show en0.length ≤ ps.length by have := hS.p2.length_eq; rw [List.length_map] at this; omega)
  have HS := Lib.hid hS
  have HST := Lib.hid hstart
  clear hS hstart HK H
  obtain ⟨N, hN⟩ : ∃ N, N = en0.length := ⟨_, rfl⟩
  have HNN := Lib.hid hN
  rw [← hN] at hlen
  clear hN
  go_wp2_with fail
  go_loopw [3, 4, 5, 6] (LvR w1 f N) (fun vs ve _ _ _ => lenOf vs + lenOf ve)
  case atStart => exact ⟨[], st0, en0, [], HST, HS.out.r1, HS.out.r2, Duo.nil _ _ (Ext.refl _), by rw [HNN.out]; simp⟩
  case round =>
    obtain ⟨op, st, en, P, HW, hs, he, hD, hPN⟩ := hrel
    have hol : op.length ≤ 1000000 := by have := HW.out.len; omega
    cases en with
    | nil =>
      obtain ⟨ad, cap, rfl⟩ := rd_none he rfl
      have HD := Lib.hid hD
      have HPN := Lib.hid hPN
      clear hD hs he hPN
      go_wp2_with fail
      refine (sort_per w1 wr _ P (own_per.2 HD.out.m) (by have h2 := HPN.out; simp only [List.length_nil] at h2; omega)).mono ?_; rintro e w2 ⟨rfl, L, hp, hsd, hO⟩
      have HO := Lib.hid (own_per.1 hO)
      have HLV := Lib.hid (HW.out.done hp hsd)
      have HLL := Lib.hid (show L.length ≤ ps.length by have h1 := hp.length_eq; have h2 := HPN.out; have h3 := HN.out; have h4 := HNN.out; simp only [List.length_nil] at h2; omega)
      clear hp hsd hO
      go_wp2_with fail
      go_ret
      exact ⟨_, L, rfl, HO.out.base HS.out.ext, HLV.out, HLL.out⟩
    | cons e en =>
      obtain ⟨ge, oe, ce, rfl, he1, he2, de'⟩ := rd_cons he
      have HTE := Lib.hid (rd_tail he)
      have HRE := Lib.hid he
      have de := hD.l.2.keeps de'
      have hgl : ge < w1.heap.size := World.block_lt_of_cell? _ _ de'
      have hgw : w1.heap.size ≤ wr.heap.size := hD.l.2.2.2
      simp only [List.length_cons] at hPN
      obtain ⟨k, hk⟩ : ∃ k, k = en.length := ⟨_, rfl⟩
      have HKL := Lib.hid hk
      unfold maxLen at he2
      rw [← hk] at he1 hPN HTE HRE ⊢
      clear hk he de'
      have hk0 : (0 : Int) ≤ (k : Int) := by omega
      cases st with
      | nil =>
        obtain ⟨zs, cs, rfl⟩ := rd_none hs rfl
        have HRS := Lib.hid hs
        have hst : ∀ s ∈ ([] : List Int), e < s := fun s hs => absurd hs List.not_mem_nil
        clear hs
        have hne := HW.out.open hst
        obtain ⟨op', o, rfl⟩ : ∃ op' o, op = op' ++ [o] := ⟨op.dropLast, op.getLast hne, (List.dropLast_concat_getLast hne).symm⟩
        have HW2 := Lib.hid (HW.out.emit hst)
        obtain ⟨go, co, rfl, hc1, hc2, hg1, do0⟩ := own_lastI hD.l
        have HPOP := Lib.hid hD.pop
        have HSEP := Lib.hid (fun kk (hh : u6.ownBlock = some kk) => show kk ≠ go from fun e => hD.sep go rfl (by rw [hh, e]))
        have HPB := Lib.hid (fun kk (hh : u6.ownBlock = some kk) => (hD.m.blk kk hh).1)
        have hgo : go < wr.heap.size := World.block_lt_of_cell? _ _ do0
        clear hne hst hD
        obtain ⟨m, hm⟩ : ∃ m, m = op'.length := ⟨_, rfl⟩
        have HML := Lib.hid hm
        have hol2 : m + 1 ≤ 1000000 := by simp at hol; omega
        unfold maxLen at hc2
        rw [← hm] at hc1 do0 HPOP
        simp only [← hm]
        clear hm hol
        have hm0 : (0 : Int) ≤ (m : Int) := by omega
        have hm1 : (m : Int) < (m : Int) + 1 := by omega
        have hm2 : (m : Int) ≤ (co : Int) := by omega
        have HPL := Lib.hid (show P.length ≤ 1000000 by omega)
        go_wp2_with fail
        go_quiet (fail)
        go_wp2_with fail
        have EX : Ext wr (wr.drewN nq) := Ext.refl wr
        have K0' : (wr.drewN nq).cell? ⟨go, m, none⟩ = some (.int .i64 o) := do0
        have K1' : (wr.drewN nq).cell? ⟨ge, oe, none⟩ = some (.int .i64 e) := de
        clear do0 de
        generalize wr.drewN nq = w0 at *
        have K0 := Lib.hid K0'
        have K1 := Lib.hid K1'
        have HEX := Lib.hid EX
        have EA := Lib.hid (((Ext.refl w0).alloc #[.int .i64 o, .int .i64 e] 28).drew)
        have HD0 := Lib.hid (HPOP.out.ext (EX.trans ((Ext.refl w0).alloc #[.int .i64 o, .int .i64 e] 28).drew))
        have HGO := Lib.hid hgo
        have HGE := Lib.hid hgl
        clear K0' K1' EX
        go_region_held3 (fun w' => w'.cell? ⟨go, m, none⟩ = some (.int .i64 o) ∧ w'.cell? ⟨ge, oe, none⟩ = some (.int .i64 e)) (first | exact ⟨K0.out, K1.out⟩ | exact ⟨EA.out.keeps K0.out, EA.out.keeps K1.out⟩ | exact ⟨r0, r1⟩ | go_keep)
          (first | (refine step_appGL tPe rfl _ _ rfl w1 _ P rfl ?a1 _ [((o, e) : Int × Int)] rfl ?a2 ?a3 ?_; (case a1 => exact HD0.out.m); (case a2 => exact rd_litG w0 [((o, e) : Int × Int)] #[.int .i64 o, .int .i64 e] 28 _ 1 rfl rfl (by simp) rfl); (case a3 => have := HPL.out; simp; omega); intro v5 w5 hO5 hg5 hl5; have r0 := grow_cell hg5 (((Ext.refl w0).alloc #[.int .i64 o, .int .i64 e] 28).keeps K0.out) (fun kk hh => HSEP.out kk hh); have r1 := grow_cell hg5 (((Ext.refl w0).alloc #[.int .i64 o, .int .i64 e] 28).keeps K1.out) (fun kk hh => by have := HPB.out kk hh; have := HGE.out; omega); have HD5 := Lib.hid (HD0.out.right hO5 hg5 hl5); clear hO5 hg5 hl5))
        all_goals
          go_wp2_with fail
          go_quiet (fail)
          go_wp2_with fail
          go_roundw
          case rel => exact ⟨op', [], en, P ++ [(o, e)], HW2, HRS.out, HTE.out, HD5.out.ext (by exact Ext.refl w5), by rw [List.length_append]; have := HKL.out; simp only [List.length_cons, List.length_nil]; omega⟩
          case measure => first | (simp [lenOf]; done) | (simp [lenOf]; omega)
      | cons s st =>
        obtain ⟨gs, os, cs, rfl, hs1, hs2, ds'⟩ := rd_cons hs
        have HTS := Lib.hid (rd_tail hs)
        have HRS := Lib.hid hs
        have ds := hD.l.2.keeps ds'
        have hgs : gs < w1.heap.size := World.block_lt_of_cell? _ _ ds'
        obtain ⟨j, hj⟩ : ∃ j, j = st.length := ⟨_, rfl⟩
        have HJL := Lib.hid hj
        unfold maxLen at hs2
        rw [← hj] at hs1 HTS HRS
        simp only [← hj]
        clear hj hs ds'
        have hj0 : (0 : Int) ≤ (j : Int) := by omega
        have hjz : (((j : Int) + 1) == 0) = false := by simp; omega
        by_cases hes : e < s
        · have hst : ∀ x ∈ s :: st, e < x := fun x hx => by
            rcases List.mem_cons.1 hx with rfl | hx
            · exact hes
            · have := (List.pairwise_cons.1 (List.pairwise_append.1 HW.out.so).2.1).1 x hx
              omega
          have hne := HW.out.open hst
          obtain ⟨op', o, rfl⟩ : ∃ op' o, op = op' ++ [o] := ⟨op.dropLast, op.getLast hne, (List.dropLast_concat_getLast hne).symm⟩
          have HW2 := Lib.hid (HW.out.emit hst)
          obtain ⟨go, co, rfl, hc1, hc2, hg1, do0⟩ := own_lastI hD.l
          have HPOP := Lib.hid hD.pop
          have HSEP := Lib.hid (fun kk (hh : u6.ownBlock = some kk) => show kk ≠ go from fun e => hD.sep go rfl (by rw [hh, e]))
          have HPB := Lib.hid (fun kk (hh : u6.ownBlock = some kk) => (hD.m.blk kk hh).1)
          have hgo : go < wr.heap.size := World.block_lt_of_cell? _ _ do0
          clear hne hst hD
          obtain ⟨m, hm⟩ : ∃ m, m = op'.length := ⟨_, rfl⟩
          have HML := Lib.hid hm
          have hol2 : m + 1 ≤ 1000000 := by simp at hol; omega
          unfold maxLen at hc2
          rw [← hm] at hc1 do0 HPOP
          simp only [← hm]
          clear hm hol
          have hm0 : (0 : Int) ≤ (m : Int) := by omega
          have hm1 : (m : Int) < (m : Int) + 1 := by omega
          have hm2 : (m : Int) ≤ (co : Int) := by omega
          have HPL := Lib.hid (show P.length ≤ 1000000 by omega)
          go_wp2_with fail
          go_quiet (fail)
          go_wp2_with fail
          have EX : Ext wr (wr.drewN nq) := Ext.refl wr
          have K0' : (wr.drewN nq).cell? ⟨go, m, none⟩ = some (.int .i64 o) := do0
          have K1' : (wr.drewN nq).cell? ⟨ge, oe, none⟩ = some (.int .i64 e) := de
          clear do0 de
          generalize wr.drewN nq = w0 at *
          have K0 := Lib.hid K0'
          have K1 := Lib.hid K1'
          have HEX := Lib.hid EX
          have EA := Lib.hid (((Ext.refl w0).alloc #[.int .i64 o, .int .i64 e] 28).drew)
          have HD0 := Lib.hid (HPOP.out.ext (EX.trans ((Ext.refl w0).alloc #[.int .i64 o, .int .i64 e] 28).drew))
          have HGO := Lib.hid hgo
          have HGE := Lib.hid hgl
          clear K0' K1' EX
          go_region_held3 (fun w' => w'.cell? ⟨go, m, none⟩ = some (.int .i64 o) ∧ w'.cell? ⟨ge, oe, none⟩ = some (.int .i64 e)) (first | exact ⟨K0.out, K1.out⟩ | exact ⟨EA.out.keeps K0.out, EA.out.keeps K1.out⟩ | exact ⟨r0, r1⟩ | go_keep)
            (first | (refine step_appGL tPe rfl _ _ rfl w1 _ P rfl ?a1 _ [((o, e) : Int × Int)] rfl ?a2 ?a3 ?_; (case a1 => exact HD0.out.m); (case a2 => exact rd_litG w0 [((o, e) : Int × Int)] #[.int .i64 o, .int .i64 e] 28 _ 1 rfl rfl (by simp) rfl); (case a3 => have := HPL.out; simp; omega); intro v5 w5 hO5 hg5 hl5; have r0 := grow_cell hg5 (((Ext.refl w0).alloc #[.int .i64 o, .int .i64 e] 28).keeps K0.out) (fun kk hh => HSEP.out kk hh); have r1 := grow_cell hg5 (((Ext.refl w0).alloc #[.int .i64 o, .int .i64 e] 28).keeps K1.out) (fun kk hh => by have := HPB.out kk hh; have := HGE.out; omega); have HD5 := Lib.hid (HD0.out.right hO5 hg5 hl5); clear hO5 hg5 hl5))
          all_goals
            go_wp2_with fail
            go_quiet (fail)
            go_wp2_with fail
            go_roundw
            case rel => exact ⟨op', s :: st, en, P ++ [(o, e)], HW2, HRS.out, HTE.out, HD5.out.ext (by exact Ext.refl w5), by rw [List.length_append]; have := HKL.out; simp only [List.length_cons, List.length_nil]; omega⟩
            case measure => first | (simp [lenOf]; done) | (simp [lenOf]; omega)
        · by_cases hse : s < e
          · have HW2 := Lib.hid (HW.out.push hse)
            have HD := Lib.hid hD
            have HOL := Lib.hid hol
            have HUB := Lib.hid (fun kk (hh : u5.ownBlock = some kk) => (hD.l.blk kk hh).1)
            clear hD hol
            go_wp2_with fail
            go_quiet (fail)
            have EX1 : Ext wr (wr.drewN nq) := Ext.refl wr
            have K1' : (wr.drewN nq).cell? ⟨gs, os, none⟩ = some (.int .i64 s) := ds
            have K2' : (wr.drewN nq).cell? ⟨ge, oe, none⟩ = some (.int .i64 e) := de
            clear ds de
            generalize wr.drewN nq = wq at *
            go_wp2_with fail
            go_quiet (fail)
            go_wp2_with fail
            have EX2 : Ext wq (wq.drewN nq) := Ext.refl wq
            have EX := EX1.trans EX2
            have K0' : (wq.drewN nq).cell? ⟨gs, os, none⟩ = some (.int .i64 s) := K1'
            clear K1' K2' EX1 EX2
            generalize wq.drewN nq = w0 at *
            have hx1 : (1 : Int) ≤ (j : Int) + 1 := by omega
            have hx2 : (j : Int) + 1 ≤ (cs : Int) := by omega
            have hx3 : (1 : Int) ≤ (cs : Int) := by omega
            have K0 := Lib.hid K0'
            have EA := Lib.hid (((Ext.refl w0).alloc #[.int .i64 s] 3).drew)
            have HD0 := Lib.hid (HD.out.ext (EX.trans ((Ext.refl w0).alloc #[.int .i64 s] 3).drew))
            have HGS := Lib.hid hgs
            clear K0' EX
            go_region_held3 (fun w' => w'.cell? ⟨gs, os, none⟩ = some (.int .i64 s)) (first | exact K0.out | exact EA.out.keeps K0.out | exact r0 | go_keep)
              (first | (refine step_appGL tI rfl _ _ rfl w1 _ op rfl ?a1 _ [s] rfl ?a2 ?a3 ?_; (case a1 => exact HD0.out.l); (case a2 => exact rd_lit1I w0 s _ _ rfl); (case a3 => have := HOL.out; simp; omega); intro v5 w5 hO5 hg5 hl5; have r0 := grow_cell hg5 (((Ext.refl w0).alloc #[.int .i64 s] 3).keeps K0.out) (fun kk hh => by have := HUB.out kk hh; have := HGS.out; omega); have HD5 := Lib.hid (HD0.out.left hO5 hg5 hl5); clear hO5 hg5 hl5))
            all_goals
              go_wp2_with fail
              go_roundw
              case rel => exact ⟨op ++ [s], st, e :: en, P, HW2, HTS.out, HRE.out, HD5.out, by have := HKL.out; simp only [List.length_cons]; omega⟩
              case measure => first | (simp [lenOf]; done) | (simp [lenOf]; omega)
          · obtain rfl : s = e := by omega
            have HW2 := Lib.hid HW.out.skip
            have HD := Lib.hid hD
            clear hD hol
            go_wp2_with fail
            go_quiet (fail)
            go_wp2_with fail
            go_quiet (fail)
            go_wp2_with fail
            go_quiet (fail)
            go_wp2_with fail
            go_roundw
            case rel => exact ⟨op, st, en, P, HW2, HTS.out, HTE.out, HD.out.ext (Ext.refl wr), by have := HKL.out; omega⟩
            case measure => first | (simp [lenOf]; done) | (simp [lenOf]; omega)
end Go.Proofs.Ytnckdopphimgoaa
