/- Checking a query, of the program: the columns of a grouping. -/
import Derived.Test.YtbplapkcleipiaaGreatDoorZz12
namespace Go.Proofs.YtbplapkcleipiaaGreatDoor
open Go.ChangeShapes Go.WideShapes Go.ChangeAt Go.RowKit

theorem Arr.putI {e : TypeId} {W w : World} {g : Nat} {l : List Int} (h : Arr e W w g l) (i : Nat) (p : Int) (hi : i < l.length) : Arr e W (w.setCell ⟨g, i, none⟩ (.int .i64 p)) g (l.set i p) := by
  have := (h.put i p hi).1
  simpa [putAll, Enc.cells, Enc.sz] using this
theorem Arr.grw {α : Type} [Enc α] {e : TypeId} {W w w' : World} {g : Nat} {l : List α} {b : Option Nat} (h : Arr e W w g l) (k : w.grownBy w' b) (hb : ∀ q, b = some q → q ≠ g ∧ W.heap.size ≤ q) : Arr e W w' g l :=
  ⟨owns_grw h.1 (grw_by k) (.inr (fun e => (hb g e.symm).1 rfl)), ext_grownBy h.2 k fun q hq => (hb q hq).2⟩
theorem Arr.base {α : Type} [Enc α] {e : TypeId} {W W' w : World} {g : Nat} {l : List α} (h : Arr e W w g l) (hE : Ext W' W) : Arr e W' w g l := by
  refine ⟨⟨h.1.1, ?_⟩, hE.trans h.2⟩
  rcases h.1.2 with h2 | ⟨g, cap, cur, hv, hg, hh, r⟩
  · exact Or.inl h2
  · exact Or.inr ⟨g, cap, cur, hv, Nat.le_trans hE.2.2 hg, hh, r⟩
/-- what the types of arguments are, «as» far «as» they are known -/
abbrev argL (es : List X) (cols : List Int) (ag : List (Int × Int)) : List Int := ag.map fun g => (argC es cols g).1
def GaR (W2 : World) (A : Nat) (es : List X) (ag : List (Int × Int)) (cols : List Int) (er i : Value) (wr : World) : Prop :=
  er = .int .i64 0 ∧ ∃ k : Nat, k ≤ ag.length ∧ i = .int .i64 k ∧ Arr tI.e W2 wr A (fil (argL es cols (ag.take k)) ag.length 0) ∧ ∀ j, (h : j < k) → (h' : j < ag.length) → (argC es cols ag[j]).2 = 0
def GbR (W2 : World) (A : Nat) (es : List X) (ag : List (Int × Int)) (cols : List Int) (i : Value) (wr : World) : Prop :=
  ∃ k : Nat, k ≤ ag.length ∧ i = .int .i64 k ∧ Arr tI.e W2 wr A (argL es cols ag) ∧ ∀ j, (h : j < k) → (h' : j < ag.length) → badS es cols ag[j] = false
abbrev tyL (es : List X) (cols : List Int) (ag : List (Int × Int)) : List Int := ag.map fun g => tyA g.1 (argC es cols g).1
def GcR (W1 : World) (A : Nat) (es : List X) (ks : List Int) (ag : List (Int × Int)) (cols : List Int) (v i : Value) (wr : World) : Prop :=
  ∃ k : Nat, k ≤ ag.length ∧ i = .int .i64 k ∧ Arr tI.e W1 wr A (argL es cols ag) ∧ OwnG tI.e W1 wr v (ks ++ tyL es cols (ag.take k)) ∧ ∀ q, v.ownBlock = some q → q ≠ A
theorem rd_Ag {w : World} {ad : Option Addr} {n cap : Nat} {l : List (Int × Int)} (h : RdG w (.slice ad n cap) l) (i : Nat) (hi : i < l.length) : ∃ g o, ad = some ⟨g, o, none⟩ ∧ w.cell? ⟨g, o + i * 2, none⟩ = some (.int .i64 l[i].1) ∧ w.cell? ⟨g, o + i * 2 + 1, none⟩ = some (.int .i64 l[i].2) := rd_K h i hi
theorem any_iff {α : Type} (f : α → Bool) (l : List α) : l.any f = true ↔ ∃ j, ∃ h : j < l.length, f l[j] = true := by
  rw [List.any_eq_true]
  constructor
  · rintro ⟨x, hx, h⟩
    obtain ⟨j, hj, rfl⟩ := List.mem_iff_getElem.1 hx
    exact ⟨j, hj, h⟩
  · rintro ⟨j, hj, h⟩
    exact ⟨_, List.getElem_mem hj, h⟩
set_option maxHeartbeats 8000000 in
set_option maxRecDepth 100000 in
theorem grp_prg (S : Nat → Prop) (es : List X) (nd : Nd) (h : Hd) (cols : List Int) (a2 a3 : Option Addr) (n2 n3 c2 c3 : Nat) (ve vc : Value) (w : World) (hl : RdG w ve es) (hn : RdNd w ⟨h, nd⟩) (hc : RdG w vc cols) (hU : Up S w)
    (hs1 : nd.ex.length ≤ 1000000) (hs2 : nd.ag.length ≤ 1000000) :
    Calls Tryz.prog 95 #[ckV ve (.slice a2 n2 c2) (.slice a3 n3 c3), ndV ⟨h, nd⟩, vc] w (CoP S w (grpC es nd.ex nd.ag cols)) := by
  obtain ⟨ad, cap, rfl, _, _⟩ := hl.shape
  obtain ⟨bd, bcap, rfl, _, _⟩ := hc.shape
  obtain ⟨hx, hy⟩ := hn
  obtain ⟨xa, xn, xc, xb, xm, xd⟩ := h
  obtain ⟨nk, na, nb, np, ns, ex, ag⟩ := nd
  simp only [Hd.x, Hd.y] at hx hy hs1 hs2 ⊢
  obtain ⟨rfl, x1, x2⟩ := hx.len
  obtain ⟨rfl, y1, y2⟩ := hy.len
  have HTY := Lib.hid (fun w' (hE : Ext w w') => typ_prg es ex cols a2 a3 n2 n3 c2 c3 _ _ _ w' (hl.ext hE) (hx.ext hE) (hc.ext hE) hs1)
  have HAR := Lib.hid (fun (g : Int × Int) w' (hE : Ext w w') => arg_prg es g.1 g.2 cols a2 a3 n2 n3 c2 c3 _ _ w' (hl.ext hE) (hc.ext hE))
  have HY := Lib.hid hy
  have HU := Lib.hid hU
  have HS1 := Lib.hid hs1
  have hs3 := hs1
  have HS2 := Lib.hid hs2
  have hq : grpC es ex ag cols = if (typC es ex cols).2 ≠ 0 then ([], (typC es ex cols).2) else if (mapE (argC es cols) ag).2 ≠ 0 then ([], (mapE (argC es cols) ag).2) else if ag.any (badS es cols) = true then ([], 7) else (ex.map (fun x => (chkV es x cols).1) ++ tyL es cols ag, 0) := rfl
  have htk : (typC es ex cols).2 = 0 → (typC es ex cols).1 = ex.map (fun x => (chkV es x cols).1) := fun h0 => by
    have := (mapE_iff (fun x => chkV es x cols) ex).1 h0
    rw [show typC es ex cols = _ from mapE_ok _ ex this]
  obtain ⟨q, hqe⟩ : ∃ q, q = grpC es ex ag cols := ⟨_, rfl⟩
  rw [← hqe] at hq ⊢
  generalize typC es ex cols = z at hq htk HTY
  obtain ⟨ks, ze⟩ := z
  simp only at hq htk HTY
  have HQ0 := Lib.hid hq
  have HTK := Lib.hid htk
  clear hl hc hx hy hU hqe hq htk
  obtain ⟨n, hn⟩ : ∃ n, n = es.length := ⟨_, rfl⟩
  obtain ⟨m, hm⟩ : ∃ m, m = cols.length := ⟨_, rfl⟩
  obtain ⟨r, hr⟩ : ∃ r, r = ex.length := ⟨_, rfl⟩
  obtain ⟨t, ht⟩ : ∃ t, t = ag.length := ⟨_, rfl⟩
  have HT := Lib.hid ht
  rw [← hn] at HTY HAR ⊢
  rw [← hm] at HTY HAR ⊢
  rw [← hr] at HTY HS1 x1 hs1 ⊢
  rw [← ht] at HY HS2 y1 hs2 ⊢
  clear hn hm hr ht
  unfold maxLen at x2 y2
  obtain ⟨W1, hW⟩ : ∃ W1, W1 = (w.alloc (.cells #[.slice ad n cap, .slice a2 n2 c2, .slice a3 n3 c3] 108)).alloc (.cells #[.int .i64 nk, .int .i64 na, .int .i64 nb, .int .i64 np, sv ns, .slice xa r xc, .slice xb t xd] 45) := ⟨_, rfl⟩
  have HW := Lib.hid (show Ext w W1 by rw [hW]; exact ((Ext.refl _).alloc _ _).alloc _ _)
  have b0 : W1.cell? ⟨w.heap.size, 0, none⟩ = some (.slice ad n cap) := by rw [hW]; exact ((Ext.refl _).alloc _ _).keeps (al_c w _ _ 0 _ rfl)
  have b1 : W1.cell? ⟨w.heap.size, 1, none⟩ = some (.slice a2 n2 c2) := by rw [hW]; exact ((Ext.refl _).alloc _ _).keeps (al_c w _ _ 1 _ rfl)
  have b2 : W1.cell? ⟨w.heap.size, 2, none⟩ = some (.slice a3 n3 c3) := by rw [hW]; exact ((Ext.refl _).alloc _ _).keeps (al_c w _ _ 2 _ rfl)
  have b6 : W1.cell? ⟨w.heap.size + 1, 6, none⟩ = some (.slice xb t xd) := by rw [hW]; have := al_c (w.alloc (.cells #[.slice ad n cap, .slice a2 n2 c2, .slice a3 n3 c3] 108)) #[.int .i64 nk, .int .i64 na, .int .i64 nb, .int .i64 np, sv ns, .slice xa r xc, .slice xb t xd] 45 6 _ rfl; rw [alsz] at this; exact this
  have HB0 := Lib.hid b0
  have HB1 := Lib.hid b1
  have HB2 := Lib.hid b2
  have HB6 := Lib.hid b6
  have hW' := Lib.hid hW
  clear hW b0 b1 b2 b6
  go_enter Tryz.func95, Tryz.ntmps95
  go_wp2_with fail
  rw [← hW'.out]
  refine (HTY.out _ HW.out).mono ?_; rintro e w2 ⟨v0, rfl, hO⟩
  have HO := Lib.hid hO
  have f6 := hO.2.keeps HB6.out
  clear hO
  by_cases hz : ze = 0
  · subst hz
    have hq := HQ0.out
    rw [if_neg (by simp)] at hq
    have HQ1 := Lib.hid hq
    have hks := HTK.out rfl
    subst hks
    clear hq HQ0 HTK
    go_wp2_with (at_make; refine makeG tI rfl _ _ rfl w2 (Ext.refl _) (t : Int) (t : Int) t rfl rfl rfl rfl (by have := HS2.out; omega) ?_; intro w3 hA hE3; have g6 := hE3.keeps f6)
    have HA := Lib.hid hA
    have HE3 := Lib.hid hE3
    have HAlt := Lib.hid hA.lo
    clear hA hE3 f6
    go_loopw [9, 35] (GaR w2 w2.heap.size es ag cols) (fun _ i _ => t - (intOf i).toNat)
    case atStart => exact ⟨rfl, 0, Nat.zero_le _, rfl, by rw [List.take_zero]; show Arr tI.e w2 w3 w2.heap.size (fil [] ag.length 0); rw [fil_nil, ← HT.out]; exact HA.out, fun j h => by omega⟩
    case round =>
      obtain ⟨rfl, k, hk, rfl, hAr, hall⟩ := hrel
      have HALL := Lib.hid hall
      clear hall
      have hkt : k ≤ t := by rw [HT.out]; exact hk
      have hE2 := Lib.hid hAr.2
      have hEw := Lib.hid (HW.out.trans (HO.out.2.trans hAr.2))
      have k6 := (HO.out.2.trans hAr.2).keeps HB6.out
      have k0 := (HO.out.2.trans hAr.2).keeps HB0.out
      have k1 := (HO.out.2.trans hAr.2).keeps HB1.out
      have k2 := (HO.out.2.trans hAr.2).keeps HB2.out
      have s0 : w.heap.size < wr.heap.size := World.block_lt_of_cell? _ _ k0
      have s1 : w.heap.size + 1 < wr.heap.size := World.block_lt_of_cell? _ _ k6
      by_cases hlt : k < t
      · have hlt' : k < ag.length := by rw [← HT.out]; exact hlt
        obtain ⟨g, o, rfl, d0', d1'⟩ := rd_Ag HY.out k hlt'
        have d0 := hEw.out.keeps d0'
        have d1 := hEw.out.keeps d1'
        clear d0' d1'
        have hck := fun w' (hE : Ext w w') => HAR.out ag[k] w' hE
        have hstep : argL es cols (ag.take (k + 1)) = argL es cols (ag.take k) ++ [(argC es cols ag[k]).1] := by
          rw [List.take_succ_eq_append_getElem hlt']; exact List.map_append
        have hpl : (argL es cols (ag.take k)).length = k := by rw [List.length_map, List.length_take]; omega
        have hbad := mapE_bad (argC es cols) ag k hlt' (fun i hi => HALL.out i hi (by omega))
        have hok : (argC es cols ag[k]).2 = 0 → ∀ j, (h : j < k + 1) → (h' : j < ag.length) → (argC es cols ag[j]).2 = 0 := fun h0 j hj hj' => by
          by_cases e : j = k
          · subst e; exact h0
          · exact HALL.out j (by omega) hj'
        generalize ag[k] = x at *
        obtain ⟨gk, ga⟩ := x
        simp only at d0 d1 hck
        generalize argC es cols (gk, ga) = z at hck hstep hbad hok
        obtain ⟨zk, ze⟩ := z
        simp only at hck hstep hbad hok
        have HCK := Lib.hid hck
        clear hck
        have hA2 := Lib.hid hAr
        have hAlt2 := hAr.lo.2
        have hfr := hAr.frozen k
        have hc0 := hAr.cell k 0 (.int .i64 0) (by rw [fil_len _ _ _ (by rw [hpl]; omega)]; omega) (by rw [fil_at _ _ _ _ hpl (by omega)]; rfl)
        simp only [Enc.sz, Nat.mul_one, Nat.add_zero] at hc0
        clear hAr
        by_cases he : ze = 0
        · subst he
          have HOK := Lib.hid (hok rfl)
          have HST := Lib.hid hstep
          have HPL := Lib.hid hpl
          clear hok hstep hbad hpl
          go_wp2_with fail
          refine (HCK.out _ (hEw.out.alloc _ _)).mono ?_; rintro e w4 ⟨rfl, hE⟩
          have hE4 := Lib.hid (((Ext.refl wr).alloc _ _).trans hE)
          have hfr4 := (hA2.out.ext hE4.out).frozen k
          have hc4 := hE4.out.keeps hc0
          clear hfr hc0
          go_wp2_with fail
          go_roundw
          case rel =>
            refine ⟨rfl, k + 1, hlt', by go_num, ?_, HOK.out⟩
            have hp := (hA2.out.ext hE4.out).putI k zk (by rw [fil_len _ _ _ (by rw [HPL.out]; omega)]; omega)
            rw [fil_set _ _ _ _ _ HPL.out (by omega), ← HST.out] at hp
            exact hp
          case measure => simp [intOf]; omega
        · have HP := Lib.hid (show q = ([], ze) by
            rw [HQ1.out, hbad he, if_pos he])
          have he' : (ze == 0) = false := by simpa using he
          clear hok hstep hbad he hpl
          go_wp2_with fail
          refine (HCK.out _ (hEw.out.alloc _ _)).mono ?_; rintro e w4 ⟨rfl, hE⟩
          have hE4 := Lib.hid (((Ext.refl wr).alloc _ _).trans hE)
          have hfr4 := (hA2.out.ext hE4.out).frozen k
          have hc4 := hE4.out.keeps hc0
          clear hfr hc0
          go_wp2_with fail
          go_ret2
          have hp := ((hA2.out.ext hE4.out).putI k zk (by rw [fil_len _ _ _ (by rw [List.length_map, List.length_take]; omega)]; omega)).2
          exact CoP.err S HP.out (HW.out.trans (HO.out.2.trans hp))
      · have hke : k = ag.length := by have := HT.out; omega
        have hA3 := hAr
        rw [hke, List.take_length, fil_full _ _ _ (by rw [List.length_map])] at hA3
        have hm0 : (mapE (argC es cols) ag).2 = 0 := (mapE_iff _ _).2 fun x hx => by
          obtain ⟨j, hj, rfl⟩ := List.mem_iff_getElem.1 hx
          exact HALL.out j (by omega) hj
        have hq2 := HQ1.out
        rw [if_neg (by rw [hm0]; simp)] at hq2
        have HQ2 := Lib.hid hq2
        have HA3 := Lib.hid hA3
        clear hAr hA3 hm0 hq2 hke HALL hk hkt
        obtain ⟨wA, rfl⟩ : ∃ x, x = wr := ⟨_, rfl⟩
        go_wp2_with fail
        go_loopw [57] (GbR w2 w2.heap.size es ag cols) (fun i _ => t - (intOf i).toNat)
        case atStart => exact ⟨0, Nat.zero_le _, rfl, HA3.out, fun j h => by omega⟩
        case round =>
          obtain ⟨k, hk, rfl, hAr, hall⟩ := hrel
          have HALL := Lib.hid hall
          clear hall
          have hkt : k ≤ t := by rw [HT.out]; exact hk
          have hEw := Lib.hid (HW.out.trans (HO.out.2.trans hAr.2))
          have k6 := (HO.out.2.trans hAr.2).keeps HB6.out
          by_cases hlt : k < t
          · have hlt' : k < ag.length := by rw [← HT.out]; exact hlt
            obtain ⟨g, o, rfl, d0', d1'⟩ := rd_Ag HY.out k hlt'
            have d0 := hEw.out.keeps d0'
            have d1 := hEw.out.keeps d1'
            clear d0' d1'
            have hal : k < (argL es cols ag).length := by rw [List.length_map]; exact hlt'
            have hc0 := hAr.cell k 0 (.int .i64 (argC es cols ag[k]).1) hal (by simp [Enc.cells])
            simp only [Enc.sz, Nat.mul_one, Nat.add_zero] at hc0
            have hbd : badS es cols ag[k] = (decide (ag[k].1 = 2) && !accB 1 (argC es cols ag[k]).1) := rfl
            have hok : badS es cols ag[k] = false → ∀ j, (h : j < k + 1) → (h' : j < ag.length) → badS es cols ag[j] = false := fun h0 j hj hj' => by
              by_cases e : j = k
              · subst e; exact h0
              · exact HALL.out j (by omega) hj'
            have hno : badS es cols ag[k] = true → q = ([], 7) := fun h0 => by
              rw [HQ2.out, if_pos]
              exact (any_iff _ _).2 ⟨k, hlt', h0⟩
            have hac := acc_alg 1 (argC es cols ag[k]).1
            generalize (argC es cols ag[k]).1 = zk at hc0 hbd hac
            generalize badS es cols ag[k] = bk at hbd hok hno
            generalize ag[k] = x at *
            obtain ⟨gk, ga⟩ := x
            simp only at d0 d1 hbd
            have hA2 := Lib.hid hAr
            have hAlt2 := hAr.lo.2
            clear hAr hal
            by_cases h2 : gk = 2
            · subst h2
              cases hb : accB 1 zk with
              | true =>
                rw [hb] at hac hbd
                have HAC := Lib.hid hac
                have HOK := Lib.hid (hok hbd)
                clear hok hno hac hbd hb
                go_wp2_with fail
                refine (HAC.out _).mono ?_; rintro e w4 ⟨rfl, rfl⟩
                go_wp2_with fail
                go_roundw
                case rel => exact ⟨k + 1, hlt', by go_num, hA2.out.ext ((Ext.refl _).alloc _ _), HOK.out⟩
                case measure => simp [intOf]; omega
              | false =>
                rw [hb] at hac hbd
                have HAC := Lib.hid hac
                have HNO := Lib.hid (hno hbd)
                clear hok hno hac hbd hb
                go_wp2_with fail
                refine (HAC.out _).mono ?_; rintro e w4 ⟨rfl, rfl⟩
                go_wp2_with fail
                go_ret2
                exact CoP.err S HNO.out (hEw.out.alloc _ _)
            · have HOK := Lib.hid (hok (by rw [hbd]; simp [h2]))
              have h2' : (gk == 2) = false := by simpa using h2
              clear hok hno hac hbd h2
              go_wp2_with fail
              go_roundw
              case rel => exact ⟨k + 1, hlt', by go_num, hA2.out.ext ((Ext.refl _).alloc _ _), HOK.out⟩
              case measure => simp [intOf]; omega
          · have hany : ag.any (badS es cols) = false := by
              cases e : ag.any (badS es cols) with
              | false => rfl
              | true =>
                obtain ⟨j, hj, h⟩ := (any_iff _ _).1 e
                rw [HALL.out j (by have := HT.out; omega) hj] at h
                cases h
            have hq3 := HQ2.out
            rw [hany, if_neg (by simp)] at hq3
            have HQ3 := Lib.hid hq3
            have HA4 := Lib.hid hAr
            have HKL := Lib.hid (show (ex.map fun x => (chkV es x cols).1).length ≤ 1000000 by rw [List.length_map]; exact hs3)
            have HO2 := Lib.hid (HO.out.ext hAr.2)
            have HNE := Lib.hid (fun g hg => Nat.ne_of_lt (HO.out.lt g hg))
            clear hq3 hany hAr HALL hk hkt
            generalize ex.map (fun x => (chkV es x cols).1) = ks at *
            obtain ⟨wB, rfl⟩ : ∃ x, x = wr := ⟨_, rfl⟩
            go_wp2_with fail
            go_loopw [8, 77] (GcR W1 w2.heap.size es ks ag cols) (fun _ i _ => t - (intOf i).toNat)
            case atStart => exact ⟨0, Nat.zero_le _, rfl, HA4.out.base HO.out.2, by simpa [tyL] using HO2.out, HNE.out⟩
            case round =>
              obtain ⟨k, hk, rfl, hAr, hOk, hne⟩ := hrel
              have hkt : k ≤ t := by rw [HT.out]; exact hk
              have hEw := Lib.hid (HW.out.trans hOk.2)
              have k6 := hOk.2.keeps HB6.out
              by_cases hlt : k < t
              · have hlt' : k < ag.length := by rw [← HT.out]; exact hlt
                obtain ⟨g, o, rfl, d0', d1'⟩ := rd_Ag HY.out k hlt'
                have d0 := hEw.out.keeps d0'
                have d1 := hEw.out.keeps d1'
                clear d0' d1'
                have hal : k < (argL es cols ag).length := by rw [List.length_map]; exact hlt'
                have hc0 := hAr.cell k 0 (.int .i64 (argC es cols ag[k]).1) hal (by simp [Enc.cells])
                simp only [Enc.sz, Nat.mul_one, Nat.add_zero] at hc0
                have hstep : ks ++ tyL es cols (ag.take (k + 1)) = (ks ++ tyL es cols (ag.take k)) ++ [tyA ag[k].1 (argC es cols ag[k]).1] := by
                  rw [List.take_succ_eq_append_getElem hlt', List.append_assoc]; congr 1; exact List.map_append
                have hpl : (ks ++ tyL es cols (ag.take k)).length ≤ 2000000 := by
                  rw [List.length_append, List.length_map, List.length_take]; have := HKL.out; have := HS2.out; omega
                have HTA := Lib.hid (fun w' => tya_prg ag[k].1 (argC es cols ag[k]).1 w')
                generalize (argC es cols ag[k]).1 = zk at hc0 hstep HTA
                generalize ag[k] = x at *
                obtain ⟨gk, ga⟩ := x
                simp only at d0 d1 hstep HTA
                have HST := Lib.hid hstep
                have HPL := Lib.hid hpl
                have HHK := Lib.hid hlt'
                clear hstep hpl hal
                generalize ks ++ tyL es cols (ag.take k) = pre at *
                generalize hz : tyA gk zk = z at *
                clear hz
                have hlt9 := hAr.lo.2
                have B0 : (wr.alloc (.cells #[.int .i64 gk, .int .i64 ga] 62)).cell? ⟨wr.heap.size, 0, none⟩ = some (.int .i64 gk) := al0 _ _ _ _
                have B1 : (wr.alloc (.cells #[.int .i64 gk, .int .i64 ga] 62)).cell? ⟨w2.heap.size, k, none⟩ = some (.int .i64 zk) := ((Ext.refl _).alloc _ _).keeps hc0
                have EX : Ext wr (wr.alloc (.cells #[.int .i64 gk, .int .i64 ga] 62)) := (Ext.refl wr).alloc _ _
                have hlv := Lib.hid (fun g hg => hOk.lt g hg)
                have HNE3 := Lib.hid hne
                have HAr := Lib.hid hAr
                have HOk := Lib.hid hOk
                clear hAr hOk hne
                go_wp2_with fail
                generalize wr.alloc (.cells #[.int .i64 gk, .int .i64 ga] 62) = w0 at *
                have K0 := Lib.hid B0
                have K1 := Lib.hid B1
                have HEX := Lib.hid EX
                have HT0 := Lib.hid (fun w' (hE : Ext w0 w') => (HTA.out w').mono (R' := fun e w'' => e = .returned (.int .i64 z) ∧ Ext w0 w'') fun e w'' h => ⟨h.1, h.2 ▸ hE⟩)
                clear EX HTA
                go_region_held3 (fun w' => w'.cell? ⟨wr.heap.size, 0, none⟩ = some (.int .i64 gk) ∧ w'.cell? ⟨w2.heap.size, k, none⟩ = some (.int .i64 zk)) (first | exact ⟨K0.out, K1.out⟩ | exact ⟨f0, f1⟩ | exact ⟨r0, r1⟩ | go_keep)
                  (first | (go_at_call 127; refine (HT0.out _ ?_).mono ?_; (first | exact Ext.refl _ | exact (Ext.refl _).drew); rintro e w3 ⟨rfl, e3⟩; have f0 := e3.keeps K0.out; have f1 := e3.keeps K1.out; have HE3' := Lib.hid e3; clear e3) | (refine step_appGL tI rfl _ _ rfl W1 _ pre rfl ?a1 _ [z] rfl ?a2 ?a3 ?_; (have z1 := HOk.out.ext (HEX.out.trans (HE3'.out.alloc #[.int .i64 z] 3)); case a1 => exact z1); (have z2 := rd_lit1I w3 z 3 _ rfl; case a2 => exact z2); (case a3 => have := HPL.out; simp; omega); intro v5 w5 hO5 hg5 hl5; have r0 := grow_cell hg5 (((Ext.refl w3).alloc _ _).keeps f0) (fun kk hh => by have := hlv.out kk hh; omega); have r1 := grow_cell hg5 (((Ext.refl w3).alloc _ _).keeps f1) (HNE3.out)))
                all_goals
                  go_wp2_with fail
                  go_roundw
                  case rel =>
                    refine ⟨k + 1, HHK.out, by go_num, ?_, by rw [HST.out]; exact hO5, ?_⟩
                    · refine (HAr.out.ext (HEX.out.trans (HE3'.out.alloc _ _))).grw hg5 fun p hp => ⟨HNE3.out p hp, (HOk.out.blk p hp).1⟩
                    · intro p hp
                      rcases hl5 with hl5 | ⟨p', hp', hle⟩
                      · exact HNE3.out p (by have e := hl5.symm.trans hp; exact e)
                      · rw [hp'] at hp; injection hp with hp; subst hp
                        have := HEX.out.2.2; have := HE3'.out.2.2; simp at hle; omega
                  case measure => simp [intOf]; omega
              · have hke : k = ag.length := by have := HT.out; omega
                rw [hke, List.take_length] at hOk
                have HOk := Lib.hid hOk
                clear hOk hke hAr hne
                go_wp2_with fail
                go_ret2
                rw [HQ3.out]
                exact ⟨_, rfl, ⟨HOk.out.rd, HOk.out.inn (HU.out.ext HW.out)⟩, hEw.out⟩
  · have HQ := Lib.hid (show q = ([], ze) by rw [HQ0.out, if_pos hz])
    have hz' : (ze == 0) = false := by simpa using hz
    clear hz HTK HQ0
    go_wp2_with fail
    go_ret2
    exact CoP.err S HQ.out (HW.out.trans HO.out.2)
end Go.Proofs.YtbplapkcleipiaaGreatDoor
