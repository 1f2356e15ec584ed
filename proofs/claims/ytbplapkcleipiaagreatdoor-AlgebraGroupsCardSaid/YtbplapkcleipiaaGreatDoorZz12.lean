/- Checking a query, of the program: small functions, the columns of a table, a predicate. -/
import Derived.Lib.SliceRun
import Derived.Test.YtbplapkcleipiaaGreatDoorZz09
import Derived.Test.YtbplapkcleipiaaGreatDoorZz10
import Derived.Test.YtbplapkcleipiaaGreatDoorZz11
namespace Go.Proofs.YtbplapkcleipiaaGreatDoor
open Go.ChangeShapes Go.WideShapes Go.ChangeAt Go.RowKit

theorem inp_none (k : Int) (h1 : k ≠ 1) (h2 : k ≠ 2) (h3 : k ≠ 3) (h4 : k ≠ 4) (h5 : k ≠ 5) (h6 : k ≠ 6) (h7 : k ≠ 7) (h8 : k ≠ 8) (h9 : k ≠ 9) (h10 : k ≠ 10) : inpN k = -1 := by
  unfold inpN; rw [if_neg (by omega), if_neg (by omega), if_neg (by omega)]
theorem ndk (k : Int) : k = 1 ∨ k = 2 ∨ k = 3 ∨ k = 4 ∨ k = 5 ∨ k = 6 ∨ k = 7 ∨ k = 8 ∨ k = 9 ∨ k = 10 ∨
    (k ≠ 1 ∧ k ≠ 2 ∧ k ≠ 3 ∧ k ≠ 4 ∧ k ≠ 5 ∧ k ≠ 6 ∧ k ≠ 7 ∧ k ≠ 8 ∧ k ≠ 9 ∧ k ≠ 10) := by omega
set_option maxHeartbeats 1000000 in
theorem inp_prg (k : Int) (w : World) : Calls Tryz.prog 62 #[.int .i64 k] w fun e w' => e = .returned (.int .i64 (inpN k)) ∧ w = w' := by
  rcases ndk k with rfl | rfl | rfl | rfl | rfl | rfl | rfl | rfl | rfl | rfl | ⟨h1, h2, h3, h4, h5, h6, h7, h8, h9, h10⟩
  case inr.inr.inr.inr.inr.inr.inr.inr.inr.inr =>
    have H := Lib.hid (inp_none k h1 h2 h3 h4 h5 h6 h7 h8 h9 h10)
    go_enter Tryz.func62, Tryz.ntmps62
    go_wp2
    go_ret
    exact ⟨ret_int H.out.symm, rfl⟩
  all_goals
    go_enter Tryz.func62, Tryz.ntmps62
    go_wp2
    go_ret
    exact ⟨ret_int (by decide), rfl⟩
theorem acc_alg (want k : Int) (w : World) : Calls Tryz.prog 125 #[.int .i64 want, .int .i64 k] w fun e w' => e = .returned (.bool (accB want k)) ∧ w = w' := by
  by_cases h0 : k = want
  · have H := Lib.hid (show accB want k = true by simp [accB, h0])
    subst h0
    go_enter Tryz.func125, Tryz.ntmps125
    go_wp2
    go_ret
    exact ⟨ret_bool H.out.symm, rfl⟩
  · by_cases h1 : k = 0
    · have H := Lib.hid (show accB want k = true by simp [accB, h1])
      subst h1
      go_enter Tryz.func125, Tryz.ntmps125
      go_wp2
      go_ret
      exact ⟨ret_bool H.out.symm, rfl⟩
    · have H := Lib.hid (show accB want k = false by simp [accB, h0, h1])
      go_enter Tryz.func125, Tryz.ntmps125
      go_wp2
      go_ret
      exact ⟨ret_bool (by rw [H.out]; simp [h0, h1]), rfl⟩
theorem tya_prg (k t : Int) (w : World) : Calls Tryz.prog 127 #[.int .i64 k, .int .i64 t] w fun e w' => e = .returned (.int .i64 (tyA k t)) ∧ w = w' := by
  by_cases h1 : k = 1
  · subst h1
    go_enter Tryz.func127, Tryz.ntmps127
    go_wp2
    go_ret
    exact ⟨ret_int (by simp [tyA]), rfl⟩
  · by_cases h2 : k = 2
    · subst h2
      go_enter Tryz.func127, Tryz.ntmps127
      go_wp2
      go_ret
      exact ⟨ret_int (by simp [tyA]), rfl⟩
    · have H := Lib.hid (show tyA k t = t by simp [tyA, h1, h2])
      have e1 : (k == 1) = false := by simpa using h1
      have e2 : (k == 2) = false := by simpa using h2
      clear h1 h2
      go_enter Tryz.func127, Tryz.ntmps127
      go_wp2
      go_ret
      exact ⟨ret_int H.out.symm, rfl⟩
/-- a checker's value -/
abbrev ckV (ve vt vc : Value) : Value := .agg #[ve, vt, vc]
theorem pre_prg (a1 a2 a3 : Option Addr) (n1 n2 n3 c1 c2 c3 : Nat) (i : Int) (w : World) :
    Calls Tryz.prog 63 #[ckV (.slice a1 n1 c1) (.slice a2 n2 c2) (.slice a3 n3 c3), .int .i64 i] w fun e w' => e = .returned (.bool (isIx i n3)) ∧ Grown w w' := by
  by_cases h0 : 0 ≤ i
  · by_cases h1 : i < n3
    · have H := Lib.hid (show isIx i n3 = true by rw [isIx_iff]; exact ⟨h0, h1⟩)
      go_enter Tryz.func63, Tryz.ntmps63
      go_wp2_with fail
      go_ret
      exact ⟨ret_bool H.out.symm, (Grown.refl _).alloc _ _⟩
    · have H := Lib.hid (show isIx i n3 = false by rw [isIx_no]; omega)
      go_enter Tryz.func63, Tryz.ntmps63
      go_wp2_with fail
      go_ret
      exact ⟨ret_bool H.out.symm, (Grown.refl _).alloc _ _⟩
  · have H := Lib.hid (show isIx i n3 = false by rw [isIx_no]; omega)
    go_enter Tryz.func63, Tryz.ntmps63
    go_wp2_with fail
    go_ret
    exact ⟨ret_bool H.out.symm, (Grown.refl _).alloc _ _⟩
/-- what is handed back: columns and an error -/
def CoP (S : Nat → Prop) (w : World) (c : List Int × Int) (e : Ending) (w' : World) : Prop := ∃ v, e = .returned (.tuple #[v, .int .i64 c.2]) ∧ RdI S w' v c.1 ∧ Ext w w'
theorem CoP.err (S : Nat → Prop) {w w' : World} {c : List Int × Int} {n : Int} (h : c = ([], n)) (hE : Ext w w') : CoP S w c (.returned (.tuple #[.slice none 0 0, .int .i64 n])) w' := by
  subst h; exact ⟨_, rfl, ⟨rdG_nil _, In.nil S⟩, hE⟩
def ScR (w : World) (c : List Int × Int) (ts : List Tt) (s : List UInt8) (i : Value) (wr : World) : Prop := ∃ k : Nat, k ≤ ts.length ∧ i = .int .i64 k ∧ Ext w wr ∧ c = scnC (ts.drop k) s
theorem rd_Tt {S : Nat → Prop} {w : World} {ad : Option Addr} {n cap : Nat} {ts : List Tt} (h : RdT S w (.slice ad n cap) ts) (i : Nat) (hi : i < ts.length) :
    ∃ g o a k, ad = some ⟨g, o, none⟩ ∧ w.cell? ⟨g, o + i * 2, none⟩ = some (sv ts[i].s) ∧ w.cell? ⟨g, o + i * 2 + 1, none⟩ = some (.slice a ts[i].ks.length k) ∧ RdI S w (.slice a ts[i].ks.length k) ts[i].ks := by
  obtain ⟨qs, h1, h2, rfl⟩ := h
  have hi' : i < qs.length := by simpa using hi
  obtain ⟨g, o, e, c⟩ := h1.at i hi'
  have hr := h2 qs[i] (List.getElem_mem _)
  obtain ⟨a, k, hx⟩ := rdI_ok.shape hr
  have c0 := c 0 _ rfl
  have c1 := c 1 _ rfl
  simp only [List.getElem_map]
  rw [hx] at c1 hr
  exact ⟨g, o, a, k, e, c0, c1, hr⟩
theorem RdT.shape {S : Nat → Prop} {w : World} {v : Value} {ts : List Tt} (h : RdT S w v ts) : ∃ ad cap, v = .slice ad ts.length cap ∧ ts.length ≤ cap ∧ cap ≤ maxLen := by
  obtain ⟨qs, h1, h2, rfl⟩ := h
  rw [List.length_map]; exact h1.shape
set_option maxHeartbeats 4000000 in
set_option maxRecDepth 100000 in
theorem tab_prg (S : Nat → Prop) (ts : List Tt) (s : List UInt8) (a1 a3 : Option Addr) (n1 n3 c1 c3 : Nat) (vt : Value) (w : World) (h : RdT S w vt ts) :
    Calls Tryz.prog 91 #[ckV (.slice a1 n1 c1) vt (.slice a3 n3 c3), sv s] w (CoP S w (scnC ts s)) := by
  obtain ⟨ad, cap, rfl, h1, h2⟩ := h.shape
  have H := Lib.hid h
  clear h
  obtain ⟨n, hn⟩ : ∃ n, n = ts.length := ⟨_, rfl⟩
  have HN := Lib.hid hn
  rw [← hn] at h1 H ⊢
  clear hn
  obtain ⟨c, hc⟩ : ∃ c, c = scnC ts s := ⟨_, rfl⟩
  have HC := Lib.hid hc
  rw [← hc]
  clear hc
  unfold maxLen at h2
  go_enter Tryz.func91, Tryz.ntmps91
  go_wp2_with fail
  go_loopw [11] (ScR w c ts s) (fun i _ => n - (intOf i).toNat)
  case atStart => exact ⟨0, Nat.zero_le _, rfl, (Ext.refl _).alloc _ _, by rw [HC.out]; rfl⟩
  case round =>
    obtain ⟨k, hk, rfl, hE, hc⟩ := hrel
    have hkn : k ≤ n := by rw [HN.out]; exact hk
    by_cases hlt : k < n
    · have hlt' : k < ts.length := by rw [← HN.out]; exact hlt
      rw [List.drop_eq_getElem_cons hlt'] at hc
      obtain ⟨g, o, a, q, rfl, d0', d1', hr'⟩ := rd_Tt H.out k hlt'
      have d0 := hE.keeps d0'
      have d1 := hE.keeps d1'
      have HR := Lib.hid (rdI_ok.ext hr' hE)
      clear d0' d1' hr'
      generalize ts[k] = x at *
      obtain ⟨xs, xk⟩ := x
      simp only at d0 d1 hc HR
      obtain ⟨m, hm⟩ : ∃ m, m = xk.length := ⟨_, rfl⟩
      rw [← hm] at d1 HR
      by_cases hz : xs = s
      · have hc2 : c = (xk, 0) := by rw [hc]; exact if_pos hz
        have HC2 := Lib.hid hc2
        subst hz
        clear hc hc2 hm
        go_wp2_with fail
        go_ret2
        rw [HC2.out]
        exact ⟨_, rfl, rdI_ok.ext HR.out ((Ext.refl _).alloc _ _), hE.alloc _ _⟩
      · have hc2 : c = scnC (ts.drop (k + 1)) s := by rw [hc]; exact if_neg hz
        have HC2 := Lib.hid hc2
        have hz1 : (xs == s) = false := by simpa using hz
        clear hc hc2 hm
        go_wp2_with fail
        go_roundw
        case rel => exact ⟨k + 1, hlt', by go_num, hE.alloc _ _, HC2.out⟩
        case measure => simp [intOf]; omega
    · have HC2 := Lib.hid (show c = ([], 8) by rw [hc, List.drop_of_length_le (by have := HN.out; omega)]; rfl)
      clear hc
      go_wp2_with fail
      go_ret2
      exact CoP.err S HC2.out hE
end Go.Proofs.YtbplapkcleipiaaGreatDoor
/- Checking a query, of the program: predicates, types of expressions, arguments of aggregates. -/
namespace Go.Proofs.YtbplapkcleipiaaGreatDoor
open Go.ChangeShapes Go.WideShapes Go.ChangeAt Go.RowKit

set_option maxHeartbeats 2000000 in
set_option maxRecDepth 100000 in
theorem pred_prg (S : Nat → Prop) (es : List X) (p : Int) (cols : List Int) (a2 a3 : Option Addr) (n2 n3 c2 c3 : Nat) (ve vc : Value) (w : World) (hl : RdG w ve es) (hc : RdI S w vc cols) :
    Calls Tryz.prog 92 #[ckV ve (.slice a2 n2 c2) (.slice a3 n3 c3), .int .i64 p, vc] w (CoP S w (prdC es p cols)) := by
  obtain ⟨ad, cap, rfl, _, _⟩ := hl.shape
  obtain ⟨bd, bcap, rfl, _, _⟩ := hc.1.shape
  have hk := fun w' (hE : Ext w w') => check_prg es p cols _ _ w' (hl.ext hE) (hc.1.ext hE)
  have HD := Lib.hid hc
  have hp : prdC es p cols = if (chkV es p cols).2 ≠ 0 then ([], (chkV es p cols).2) else if accB 3 (chkV es p cols).1 = true then (cols, 0) else ([], 7) := rfl
  obtain ⟨q, hq⟩ : ∃ q, q = prdC es p cols := ⟨_, rfl⟩
  rw [← hq] at hp ⊢
  generalize chkV es p cols = z at hk hp
  obtain ⟨k, er⟩ := z
  simp only at hk hp
  have HK := Lib.hid hk
  clear hl hc hk hq
  obtain ⟨n, hn⟩ : ∃ n, n = es.length := ⟨_, rfl⟩
  obtain ⟨m, hm⟩ : ∃ m, m = cols.length := ⟨_, rfl⟩
  rw [← hn] at HK ⊢
  rw [← hm] at HK HD ⊢
  clear hn hm
  by_cases he : er = 0
  · subst he
    rw [if_neg (by simp)] at hp
    by_cases hb : accB 3 k = true
    · have hA := acc_alg 3 k
      rw [hb] at hA
      rw [if_pos hb] at hp
      have HP := Lib.hid hp
      have HA := Lib.hid hA
      clear hp hb hA
      go_enter Tryz.func92, Tryz.ntmps92
      go_wp2_with fail
      refine (HK.out _ ((Ext.refl _).alloc _ _)).mono ?_; rintro e w1 ⟨rfl, hE⟩
      go_wp2_with fail
      refine (HA.out _).mono ?_; rintro e w2 ⟨rfl, rfl⟩
      go_wp2_with fail
      go_ret2
      rw [HP.out]
      have hE2 := ((Ext.refl w).alloc _ _).trans hE
      exact ⟨_, rfl, rdI_ok.ext HD.out hE2, hE2⟩
    · have hA := acc_alg 3 k
      have hb' : accB 3 k = false := by simpa using hb
      rw [hb'] at hA
      rw [if_neg hb] at hp
      have HP := Lib.hid hp
      have HA := Lib.hid hA
      clear hp hb hA hb'
      go_enter Tryz.func92, Tryz.ntmps92
      go_wp2_with fail
      refine (HK.out _ ((Ext.refl _).alloc _ _)).mono ?_; rintro e w1 ⟨rfl, hE⟩
      go_wp2_with fail
      refine (HA.out _).mono ?_; rintro e w2 ⟨rfl, rfl⟩
      go_wp2_with fail
      go_ret2
      exact CoP.err S HP.out (((Ext.refl w).alloc _ _).trans hE)
  · rw [if_pos (by simpa using he)] at hp
    have HP := Lib.hid hp
    have he' : (er == 0) = false := by simpa using he
    clear hp he
    go_enter Tryz.func92, Tryz.ntmps92
    go_wp2_with fail
    refine (HK.out _ ((Ext.refl _).alloc _ _)).mono ?_; rintro e w1 ⟨rfl, hE⟩
    go_wp2_with fail
    go_ret2
    exact CoP.err S HP.out (((Ext.refl w).alloc _ _).trans hE)
/-- while types are gathered -/
def TyR (W1 : World) (es : List X) (ex cols : List Int) (v i : Value) (wr : World) : Prop := ∃ k : Nat, k ≤ ex.length ∧ i = .int .i64 k ∧ OwnG tI.e W1 wr v ((ex.take k).map fun x => (chkV es x cols).1) ∧ ∀ j, (h : j < k) → (h' : j < ex.length) → (chkV es ex[j] cols).2 = 0
set_option maxHeartbeats 4000000 in
set_option maxRecDepth 100000 in
theorem typ_prg (es : List X) (ex cols : List Int) (a2 a3 : Option Addr) (n2 n3 c2 c3 : Nat) (ve vx vc : Value) (w : World) (hl : RdG w ve es) (hx : RdG w vx ex) (hc : RdG w vc cols) (hs : ex.length ≤ 1000000) :
    Calls Tryz.prog 93 #[ckV ve (.slice a2 n2 c2) (.slice a3 n3 c3), vx, vc] w fun e w' => ∃ v, e = .returned (.tuple #[v, .int .i64 (typC es ex cols).2]) ∧ OwnG tI.e w w' v (typC es ex cols).1 := by
  obtain ⟨ad, cap, rfl, _, _⟩ := hl.shape
  obtain ⟨bd, bcap, rfl, _, _⟩ := hc.shape
  obtain ⟨xd, xcap, rfl, hx1, hx2⟩ := hx.shape
  have HK := Lib.hid (fun x w' (hE : Ext w w') => check_prg es x cols _ _ w' (hl.ext hE) (hc.ext hE))
  have HX := Lib.hid hx
  have HS := Lib.hid hs
  obtain ⟨q, hq⟩ : ∃ q, q = typC es ex cols := ⟨_, rfl⟩
  have HQ := Lib.hid hq
  rw [← hq]
  clear hl hc hx hs hq
  obtain ⟨n, hn⟩ : ∃ n, n = es.length := ⟨_, rfl⟩
  obtain ⟨m, hm⟩ : ∃ m, m = cols.length := ⟨_, rfl⟩
  obtain ⟨t, ht⟩ : ∃ t, t = ex.length := ⟨_, rfl⟩
  have HT := Lib.hid ht
  rw [← hn] at HK ⊢
  rw [← hm] at HK ⊢
  rw [← ht] at HX hx1 ⊢
  clear hn hm ht
  unfold maxLen at hx2
  obtain ⟨W1, hW⟩ : ∃ W1, W1 = w.alloc (.cells #[.slice ad n cap, .slice a2 n2 c2, .slice a3 n3 c3] 108) := ⟨_, rfl⟩
  have HW := Lib.hid (show Ext w W1 by rw [hW]; exact (Ext.refl _).alloc _ _)
  have hb0 : W1.cell? ⟨w.heap.size, 0, none⟩ = some (.slice ad n cap) := by rw [hW]; exact al_c w _ _ 0 _ rfl
  have HB := Lib.hid hb0
  have HBl := Lib.hid (show w.heap.size < W1.heap.size by rw [hW]; simp)
  have hW' := Lib.hid hW
  clear hb0 hW
  go_enter Tryz.func93, Tryz.ntmps93
  go_wp2_with fail
  go_loopw [8, 15] (TyR W1 es ex cols) (fun _ i _ => t - (intOf i).toNat)
  case atStart => exact ⟨0, Nat.zero_le _, rfl, by rw [← hW'.out]; exact OwnG.nil _ _ _ (Ext.refl _), fun j h => by omega⟩
  case round =>
    obtain ⟨k, hk, rfl, hO, hall⟩ := hrel
    have HALL := Lib.hid hall
    clear hall
    have hkt : k ≤ t := by rw [HT.out]; exact hk
    have hb := hO.2.keeps HB.out
    by_cases hlt : k < t
    · have hlt' : k < ex.length := by rw [← HT.out]; exact hlt
      obtain ⟨g, o, rfl, d0'⟩ := rd_I HX.out k hlt'
      have d0 := hO.2.keeps (HW.out.keeps d0')
      clear d0'
      have hck := fun w' (hE : Ext w w') => HK.out ex[k] w' hE
      have hstep : (ex.take (k + 1)).map (fun x => (chkV es x cols).1) = (ex.take k).map (fun x => (chkV es x cols).1) ++ [(chkV es ex[k] cols).1] := by
        rw [List.take_succ_eq_append_getElem hlt', List.map_append]; rfl
      have hbad := mapE_bad (fun x => chkV es x cols) ex k hlt' (fun i hi => HALL.out i hi (by omega))
      have hok : (chkV es ex[k] cols).2 = 0 → ∀ j, (h : j < k + 1) → (h' : j < ex.length) → (chkV es ex[j] cols).2 = 0 := fun h0 j hj hj' => by
        by_cases e : j = k
        · subst e; exact h0
        · exact HALL.out j (by omega) hj'
      generalize hz : chkV es ex[k] cols = z at hck hstep hbad hok
      generalize ex[k] = x at *
      obtain ⟨zk, ze⟩ := z
      simp only at hck hstep hbad hok
      have HCK := Lib.hid hck
      clear hck hz
      by_cases he : ze = 0
      · subst he
        have HOK := Lib.hid (hok rfl)
        have HST := Lib.hid hstep
        have HLN := Lib.hid (show ((ex.take k).map fun x => (chkV es x cols).1).length ≤ 1000000 by rw [List.length_map, List.length_take]; have := HS.out; omega)
        clear hok hstep hbad
        generalize (ex.take k).map (fun x => (chkV es x cols).1) = pre at *
        go_wp2_with fail
        refine (HCK.out _ (HW.out.trans hO.2)).mono ?_; rintro e w2 ⟨rfl, hE⟩
        have hO2 := hO.ext hE
        go_wp2_with (at_builtin; refine appG tI rfl _ _ rfl W1 _ pre rfl (hO2.ext ((Ext.refl _).alloc _ _)) _ [zk] rfl (rd_lit1I _ zk _ _ rfl) (by have := HLN.out; simp; omega) ?_; intro v' w' hO' hg')
        go_roundw
        case rel => exact ⟨k + 1, hlt', by go_num, by rw [HST.out]; exact hO', HOK.out⟩
        case measure => simp [intOf]; omega
      · have HP := Lib.hid (show q = ([], ze) by rw [HQ.out]; exact hbad he)
        have he' : (ze == 0) = false := by simpa using he
        clear hok hstep hbad he
        go_wp2_with fail
        refine (HCK.out _ (HW.out.trans hO.2)).mono ?_; rintro e w2 ⟨rfl, hE⟩
        go_wp2_with fail
        go_ret2
        rw [HP.out]
        exact ⟨_, rfl, OwnG.nil _ _ _ ((HW.out.trans hO.2).trans hE)⟩
    · have hke : k = ex.length := by have := HT.out; omega
      have HP := Lib.hid (show q = (ex.map (fun x => (chkV es x cols).1), 0) by
        rw [HQ.out]; exact mapE_ok _ ex fun x hx => by
          obtain ⟨j, hj, rfl⟩ := List.mem_iff_getElem.1 hx
          exact HALL.out j (by omega) hj)
      rw [hke, List.take_length] at hO
      clear hke
      go_wp2_with fail
      go_ret2
      rw [HP.out]
      exact ⟨_, rfl, hO.base HW.out⟩
set_option maxHeartbeats 2000000 in
set_option maxRecDepth 100000 in
theorem arg_prg (es : List X) (gk ga : Int) (cols : List Int) (a2 a3 : Option Addr) (n2 n3 c2 c3 : Nat) (ve vc : Value) (w : World) (hl : RdG w ve es) (hc : RdG w vc cols) :
    Calls Tryz.prog 126 #[ckV ve (.slice a2 n2 c2) (.slice a3 n3 c3), .agg #[.int .i64 gk, .int .i64 ga], vc] w fun e w' => e = .returned (.tuple #[.int .i64 (argC es cols (gk, ga)).1, .int .i64 (argC es cols (gk, ga)).2]) ∧ Ext w w' := by
  obtain ⟨ad, cap, rfl, _, _⟩ := hl.shape
  obtain ⟨bd, bcap, rfl, _, _⟩ := hc.shape
  have HK := Lib.hid (fun x w' (hE : Ext w w') => check_prg es x cols _ _ w' (hl.ext hE) (hc.ext hE))
  have ha : argC es cols (gk, ga) = if gk = 1 then (0, 0) else if 2 ≤ gk ∧ gk ≤ 4 then chkV es ga cols else (0, 5) := rfl
  obtain ⟨q, hq⟩ : ∃ q, q = argC es cols (gk, ga) := ⟨_, rfl⟩
  rw [← hq] at ha ⊢
  clear hl hc hq
  obtain ⟨n, hn⟩ : ∃ n, n = es.length := ⟨_, rfl⟩
  obtain ⟨m, hm⟩ : ∃ m, m = cols.length := ⟨_, rfl⟩
  rw [← hn] at HK ⊢
  rw [← hm] at HK ⊢
  clear hn hm
  rcases (show gk = 1 ∨ gk = 2 ∨ gk = 3 ∨ gk = 4 ∨ (gk ≠ 1 ∧ gk ≠ 2 ∧ gk ≠ 3 ∧ gk ≠ 4) by omega) with rfl | rfl | rfl | rfl | ⟨h1, h2, h3, h4⟩
  · have HA := Lib.hid (show q = (0, 0) from ha)
    clear ha
    go_enter Tryz.func126, Tryz.ntmps126
    go_wp2_with fail
    go_ret2
    rw [HA.out]
    exact ⟨rfl, ((Ext.refl _).alloc _ _).alloc _ _⟩
  iterate 3
    · have HA := Lib.hid (show q = chkV es ga cols by rw [ha, if_neg (by decide), if_pos (by decide)])
      clear ha
      go_enter Tryz.func126, Tryz.ntmps126
      go_wp2_with fail
      refine (HK.out ga _ (((Ext.refl _).alloc _ _).alloc _ _)).mono ?_; rintro e w1 ⟨rfl, hE⟩
      go_wp2_with fail
      go_ret2
      rw [HA.out]
      exact ⟨rfl, (((Ext.refl _).alloc _ _).alloc _ _).trans hE⟩
  · have HA := Lib.hid (show q = (0, 5) by rw [ha, if_neg h1, if_neg (by omega)])
    clear ha
    have e1 : (gk == 1) = false := by simpa using h1
    have e2 : (gk == 2) = false := by simpa using h2
    have e3 : (gk == 3) = false := by simpa using h3
    have e4 : (gk == 4) = false := by simpa using h4
    clear h1 h2 h3 h4
    go_enter Tryz.func126, Tryz.ntmps126
    go_wp2_with fail
    go_ret2
    rw [HA.out]
    exact ⟨rfl, ((Ext.refl _).alloc _ _).alloc _ _⟩
end Go.Proofs.YtbplapkcleipiaaGreatDoor
/- Clones of slices; the program's comparison of slices of rows. -/
namespace Go.Proofs.YtbplapkcleipiaaGreatDoor
open Go.ChangeShapes Go.WideShapes Go.ChangeAt Go.RowKit

set_option maxHeartbeats 1000000 in
set_option maxRecDepth 100000 in
theorem clone_P (l : List P) (v : Value) (w : World) (h : RdG w v l) (hl : l.length ≤ 1000000) :
    Calls Tryz.prog 52 #[v] w fun e w' => ∃ v', e = .returned v' ∧ OwnG tP.e w w' v' l := by
  have q : ∀ (w : World) (a : Option Addr) (n c n' c' : Nat), (binOp .eql 28 (.slice a n c) (.slice none n' c')).run Tryz.prog w = .ok (.bool a.isNone) w := fun w a n c n' c' => Lib.run_eql_slice_nil w _ _ a n c n' c' Tryz.underlying28
  obtain ⟨ad, cap, rfl, h1, h2, h3, _⟩ := id h
  unfold maxLen at h2
  have H := Lib.hid h
  have HL := Lib.hid hl
  clear h hl
  cases ad with
  | none =>
    obtain rfl := h3 rfl
    have hn : l = [] := List.eq_nil_of_length_eq_zero (by omega)
    subst hn
    clear h3 h1 h2
    go_enter Tryz.func52, Tryz.ntmps52
    go_wp2_with fail
    go_ret
    exact ⟨_, rfl, OwnG.nil _ _ _ (Ext.refl _)⟩
  | some ad =>
    obtain ⟨n, hn⟩ : ∃ n, n = l.length := ⟨_, rfl⟩
    have HN := Lib.hid hn
    rw [← hn] at H h1 ⊢
    clear hn h3
    go_enter Tryz.func52, Tryz.ntmps52
    go_wp2_with (at_builtin; refine appG tP rfl _ _ rfl w _ [] rfl (own_lit0 _ (Ext.refl _) _ rfl) _ l rfl (by rw [HN.out] at H; first | exact H.out.ext ((Ext.refl _).alloc _ _) | (rw [HN.out]; exact H.out.ext ((Ext.refl _).alloc _ _))) (by have := HL.out; simp; omega) ?_; intro v' w' hO' hg')
    go_ret
    exact ⟨_, rfl, by simpa using hO'⟩
set_option maxHeartbeats 1000000 in
set_option maxRecDepth 100000 in
theorem clone_V (l : List V) (v : Value) (w : World) (h : RdG w v l) (hl : l.length ≤ 1000000) :
    Calls Tryz.prog 57 #[v] w fun e w' => ∃ v', e = .returned v' ∧ OwnG tV.e w w' v' l := by
  have q : ∀ (w : World) (a : Option Addr) (n c n' c' : Nat), (binOp .eql 49 (.slice a n c) (.slice none n' c')).run Tryz.prog w = .ok (.bool a.isNone) w := fun w a n c n' c' => Lib.run_eql_slice_nil w _ _ a n c n' c' Tryz.underlying49
  obtain ⟨ad, cap, rfl, h1, h2, h3, _⟩ := id h
  unfold maxLen at h2
  have H := Lib.hid h
  have HL := Lib.hid hl
  clear h hl
  cases ad with
  | none =>
    obtain rfl := h3 rfl
    have hn : l = [] := List.eq_nil_of_length_eq_zero (by omega)
    subst hn
    clear h3 h1 h2
    go_enter Tryz.func57, Tryz.ntmps57
    go_wp2_with fail
    go_ret
    exact ⟨_, rfl, OwnG.nil _ _ _ (Ext.refl _)⟩
  | some ad =>
    obtain ⟨n, hn⟩ : ∃ n, n = l.length := ⟨_, rfl⟩
    have HN := Lib.hid hn
    rw [← hn] at H h1 ⊢
    clear hn h3
    go_enter Tryz.func57, Tryz.ntmps57
    go_wp2_with (at_builtin; refine appG tV rfl _ _ rfl w _ [] rfl (own_lit0 _ (Ext.refl _) _ rfl) _ l rfl (by rw [HN.out] at H; first | exact H.out.ext ((Ext.refl _).alloc _ _) | (rw [HN.out]; exact H.out.ext ((Ext.refl _).alloc _ _))) (by have := HL.out; simp; omega) ?_; intro v' w' hO' hg')
    go_ret
    exact ⟨_, rfl, by simpa using hO'⟩
set_option maxHeartbeats 1000000 in
set_option maxRecDepth 100000 in
theorem clone_I (l : List Int) (v : Value) (w : World) (h : RdG w v l) (hl : l.length ≤ 1000000) :
    Calls Tryz.prog 50 #[v] w fun e w' => ∃ v', e = .returned v' ∧ OwnG tI.e w w' v' l := by
  have q : ∀ (w : World) (a : Option Addr) (n c n' c' : Nat), (binOp .eql 41 (.slice a n c) (.slice none n' c')).run Tryz.prog w = .ok (.bool a.isNone) w := fun w a n c n' c' => Lib.run_eql_slice_nil w _ _ a n c n' c' Tryz.underlying41
  obtain ⟨ad, cap, rfl, h1, h2, h3, _⟩ := id h
  unfold maxLen at h2
  have H := Lib.hid h
  have HL := Lib.hid hl
  clear h hl
  cases ad with
  | none =>
    obtain rfl := h3 rfl
    have hn : l = [] := List.eq_nil_of_length_eq_zero (by omega)
    subst hn
    clear h3 h1 h2
    go_enter Tryz.func50, Tryz.ntmps50
    go_wp2_with fail
    go_ret
    exact ⟨_, rfl, OwnG.nil _ _ _ (Ext.refl _)⟩
  | some ad =>
    obtain ⟨n, hn⟩ : ∃ n, n = l.length := ⟨_, rfl⟩
    have HN := Lib.hid hn
    rw [← hn] at H h1 ⊢
    clear hn h3
    go_enter Tryz.func50, Tryz.ntmps50
    go_wp2_with (at_builtin; refine appG tI rfl _ _ rfl w _ [] rfl (own_lit0 _ (Ext.refl _) _ rfl) _ l rfl (by rw [HN.out] at H; first | exact H.out.ext ((Ext.refl _).alloc _ _) | (rw [HN.out]; exact H.out.ext ((Ext.refl _).alloc _ _))) (by have := HL.out; simp; omega) ?_; intro v' w' hO' hg')
    go_ret
    exact ⟨_, rfl, by simpa using hO'⟩
end Go.Proofs.YtbplapkcleipiaaGreatDoor
/- Checking a query, of the program: the columns of a set operation. -/
namespace Go.Proofs.YtbplapkcleipiaaGreatDoor
open Go.ChangeShapes Go.WideShapes Go.ChangeAt Go.RowKit

theorem cmn_len : ∀ a b c : List Int, cmn a b = some c → a.length = b.length
  | [], [], _, _ => rfl
  | [], _ :: _, _, h => by simp [cmn] at h
  | _ :: _, [], _, h => by simp [cmn] at h
  | x :: a, y :: b, c, h => by
    unfold cmn at h
    have : ∃ d, cmn a b = some d := by
      cases e : cmn a b with
      | none => rw [e] at h; simp at h
      | some d => exact ⟨d, rfl⟩
    obtain ⟨d, hd⟩ := this
    have := cmn_len a b d hd
    simp [this]
theorem OwnG.set1 {W w : World} {g n cap : Nat} {l : List Int} (h : OwnG tI.e W w (.slice (some ⟨g, 0, none⟩) n cap) l) (i : Nat) (x : Int) : OwnG tI.e W (w.setCell ⟨g, i, none⟩ (.int .i64 x)) (.slice (some ⟨g, 0, none⟩) n cap) (l.set i x) := by
  have hn : n = l.length := by
    rcases h.1.2 with ⟨e, _⟩ | ⟨g', c', cur, e, _⟩
    · cases e
    · injection e
  subst hn
  obtain ⟨h1, h2⟩ := h.1.stored i (.int .i64 x)
  refine h.grow h2 ?_
  rw [List.length_set, cellsI, List.map_set, ← cellsI]; exact h1
def CmR (w : World) (a b : List Int) (v i : Value) (wr : World) : Prop := ∃ (k : Nat) (pre : List Int), k ≤ a.length ∧ i = .int .i64 k ∧ pre.length = k ∧ OwnG tI.e w wr v (pre ++ a.drop k) ∧ cmn a b = (cmn (a.drop k) (b.drop k)).map (pre ++ ·)
set_option maxHeartbeats 4000000 in
set_option maxRecDepth 100000 in
theorem cmn_prg (S : Nat → Prop) (a b : List Int) (va vb : Value) (w : World) (ha : RdG w va a) (hb : RdG w vb b) (hU : Up S w) (hl : a.length ≤ 1000000) :
    Calls Tryz.prog 94 #[va, vb] w (CoP S w (cmnC a b)) := by
  have hcl := clone_I a va w ha hl
  obtain ⟨ad, acap, rfl, i1, i2⟩ := ha.shape
  obtain ⟨bd, bcap, rfl, j1, j2⟩ := hb.shape
  have HA := Lib.hid ha
  have HB := Lib.hid hb
  have HU := Lib.hid hU
  obtain ⟨q, hq⟩ : ∃ q, q = cmnC a b := ⟨_, rfl⟩
  have HQ := Lib.hid hq
  rw [← hq]
  clear ha hb hU hq
  obtain ⟨n, hn⟩ : ∃ n, n = a.length := ⟨_, rfl⟩
  obtain ⟨m, hm⟩ : ∃ m, m = b.length := ⟨_, rfl⟩
  have HN := Lib.hid hn
  have HM := Lib.hid hm
  rw [← hn] at HA i1 hcl ⊢
  rw [← hm] at HB j1 ⊢
  clear hn hm hl
  have HC := Lib.hid hcl
  clear hcl
  unfold maxLen at i2 j2
  by_cases hnm : n = m
  · subst hnm
    go_enter Tryz.func94, Tryz.ntmps94
    go_wp2_with fail
    refine HC.out.mono ?_; rintro e w1 ⟨v, rfl, hO⟩
    have HO := Lib.hid hO
    clear hO
    go_wp2_with fail
    go_loopw [18] (CmR w a b v) (fun i _ => n - (intOf i).toNat)
    case atStart => exact ⟨0, [], Nat.zero_le _, rfl, rfl, HO.out, by simp⟩
    case round =>
      obtain ⟨k, pre, hk, rfl, hp, hO, hc⟩ := hrel
      have hkn : k ≤ n := by rw [HN.out]; exact hk
      have hE := Lib.hid hO.2
      by_cases hlt : k < n
      · have hka : k < a.length := by rw [← HN.out]; exact hlt
        have hkb : k < b.length := by rw [← HM.out]; exact hlt
        obtain ⟨g, o, rfl, d0'⟩ := rd_I HA.out k hka
        obtain ⟨g2, o2, rfl, d1'⟩ := rd_I HB.out k hkb
        have d0 := hE.out.keeps d0'
        have d1 := hE.out.keeps d1'
        clear d0' d1'
        rw [List.drop_eq_getElem_cons hka, List.drop_eq_getElem_cons hkb] at hc
        rw [List.drop_eq_getElem_cons hka] at hO
        have hlen : (pre ++ a[k] :: a.drop (k + 1)).length = n := by simp; have := HN.out; omega
        have hA := acc_alg a[k] b[k]
        generalize a[k] = x at *
        generalize b[k] = y at *
        have hcc : cmn (x :: a.drop (k + 1)) (y :: b.drop (k + 1)) = if y = x ∨ y = 0 then (cmn (a.drop (k + 1)) (b.drop (k + 1))).map (x :: ·) else if x = 0 then (cmn (a.drop (k + 1)) (b.drop (k + 1))).map (y :: ·) else none := rfl
        rw [hcc] at hc
        clear hcc
        by_cases h1 : y = x ∨ y = 0
        · rw [if_pos h1] at hc
          rw [show accB x y = true by unfold accB; simpa using h1] at hA
          have HA1 := Lib.hid hA
          have HC1 := Lib.hid (show cmn a b = (cmn (a.drop (k + 1)) (b.drop (k + 1))).map ((pre ++ [x]) ++ ·) by rw [hc, Option.map_map]; congr 1; funext z; simp)
          have HO1 := Lib.hid (show OwnG tI.e w wr v ((pre ++ [x]) ++ a.drop (k + 1)) by simpa using hO)
          have HP := Lib.hid hp
          clear hc hO hA h1 hlen hp
          go_wp2_with fail
          refine (HA1.out _).mono ?_; rintro e w2 ⟨rfl, rfl⟩
          go_wp2_with fail
          go_roundw
          case rel => exact ⟨k + 1, pre ++ [x], hka, by go_num, by rw [List.length_append, HP.out]; rfl, HO1.out, HC1.out⟩
          case measure => simp [intOf]; omega
        · rw [if_neg h1] at hc
          rw [show accB x y = false by unfold accB; simpa using h1] at hA
          have HA1 := Lib.hid hA
          by_cases h2 : x = 0
          · rw [if_pos h2] at hc
            subst h2
            have HC1 := Lib.hid (show cmn a b = (cmn (a.drop (k + 1)) (b.drop (k + 1))).map ((pre ++ [y]) ++ ·) by rw [hc, Option.map_map]; congr 1; funext z; simp)
            rcases hO.1.2 with ⟨rfl, hn0⟩ | ⟨g3, cap3, cur, rfl, hb3, hg3, hn3, hm3, hs3, ht3⟩
            · exact absurd hn0 (by rw [hlen]; omega)
            have hfr := hO.1.frozenAt (g := g3) k
            have hlt3 : g3 < wr.heap.size := (Array.getElem?_eq_some_iff.1 hg3).1
            have hset := hO.set1 k y
            have hst : (pre ++ 0 :: a.drop (k + 1)).set k y = (pre ++ [y]) ++ a.drop (k + 1) := by
              rw [List.set_append_right _ _ (by omega), hp, Nat.sub_self, List.set_cons_zero, List.append_assoc]; rfl
            rw [hst] at hset
            rw [hlen] at hset hn3 hO ⊢
            have HO1 := Lib.hid hset
            have HP := Lib.hid hp
            have c3 : wr.cell? ⟨g3, k, none⟩ = some (.int .i64 0) := by
              have hk2 : k < (pre ++ 0 :: a.drop (k + 1)).length := by rw [hlen]; omega
              obtain ⟨g', o', e', c'⟩ := rd_I hO.rd k hk2
              simp only [Option.some.injEq, Addr.mk.injEq, and_true] at e'
              obtain ⟨rfl, rfl⟩ := e'
              have hv : (pre ++ 0 :: a.drop (k + 1))[k] = 0 := by
                subst hp; simp
              rw [hv, Nat.zero_add] at c'
              exact c'
            clear hc hO hA h1 hlen hp hset hst ht3 hs3 hg3
            go_wp2_with fail
            refine (HA1.out _).mono ?_; rintro e w2 ⟨rfl, rfl⟩
            go_wp2_with fail
            go_roundw
            case rel => exact ⟨k + 1, pre ++ [y], hka, by go_num, by rw [List.length_append, HP.out]; rfl, HO1.out, HC1.out⟩
            case measure => simp [intOf]; omega
          · rw [if_neg h2] at hc
            have HQ2 := Lib.hid (show q = ([], 7) by rw [HQ.out]; unfold cmnC; rw [hc]; rfl)
            have h2' : (x == 0) = false := by simpa using h2
            clear hc hO hA h1 hlen hp h2
            go_wp2_with fail
            refine (HA1.out _).mono ?_; rintro e w2 ⟨rfl, rfl⟩
            go_wp2_with fail
            go_ret2
            exact CoP.err S HQ2.out hE.out
      · have hka : a.drop k = [] := List.drop_of_length_le (by have := HN.out; omega)
        have hkb : b.drop k = [] := List.drop_of_length_le (by have := HM.out; omega)
        rw [hka, hkb] at hc
        rw [hka, List.append_nil] at hO
        have HQ2 := Lib.hid (show q = (pre, 0) by rw [HQ.out]; unfold cmnC; rw [hc]; simp [cmn])
        have HO1 := Lib.hid hO
        clear hc hka hkb hO hp
        go_wp2_with fail
        go_ret2
        rw [HQ2.out]
        exact ⟨_, rfl, ⟨HO1.out.rd, HO1.out.inn HU.out⟩, hE.out⟩
  · have HQ2 := Lib.hid (show q = ([], 7) by
      rw [HQ.out]; unfold cmnC
      cases e : cmn a b with
      | none => rfl
      | some c => exact absurd (cmn_len a b c e) (by have := HN.out; have := HM.out; omega))
    have hnm' : ((n : Int) == (m : Int)) = false := by simp; omega
    go_enter Tryz.func94, Tryz.ntmps94
    go_wp2_with fail
    go_ret2
    exact CoP.err S HQ2.out (Ext.refl _)
end Go.Proofs.YtbplapkcleipiaaGreatDoor
