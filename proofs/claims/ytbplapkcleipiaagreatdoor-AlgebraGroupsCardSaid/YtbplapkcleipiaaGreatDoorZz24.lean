/- Evaluating a query, of the program: scans, predicates, selections, expressions. -/
import Derived.Test.YtbplapkcleipiaaGreatDoorZz20
import Derived.Test.YtbplapkcleipiaaGreatDoorZz23
namespace Go.Proofs.YtbplapkcleipiaaGreatDoor
open Go.ChangeShapes Go.WideShapes Go.ChangeAt Go.RowKit

/-- an evaluation's value -/
abbrev eaV (ve vd vc vr : Value) : Value := .agg #[ve, vd, vc, vr]
/-- rows that are handed back -/
def RoP (S : Nat → Prop) (w : World) (l : List R) (e : Ending) (w' : World) : Prop := ∃ v, e = .returned v ∧ RdR S w' v l ∧ Ext w w'
theorem RoP.trans {S : Nat → Prop} {w0 w w' : World} {l : List R} {e : Ending} (h : Ext w0 w) (k : RoP S w l e w') : RoP S w0 l e w' := by
  obtain ⟨v, h1, h2, h3⟩ := k
  exact ⟨v, h1, h2, h.trans h3⟩
theorem rdR_nil (S : Nat → Prop) (w : World) : RdR S w (.slice none 0 0) [] := ⟨[], rdG_nil _, In.nil S, fun p hp => (by cases hp), rfl⟩
theorem RdB9.shape {S : Nat → Prop} {w : World} {v : Value} {db : List Tb} (h : RdB9 S w v db) : ∃ ad cap, v = .slice ad db.length cap ∧ db.length ≤ cap ∧ cap ≤ maxLen := by
  obtain ⟨qs, h1, h2, rfl⟩ := h
  rw [List.length_map]; exact h1.shape
theorem rd_Tb {S : Nat → Prop} {w : World} {ad : Option Addr} {n cap : Nat} {db : List Tb} (h : RdB9 S w (.slice ad n cap) db) (i : Nat) (hi : i < db.length) :
    ∃ g o a k b m, ad = some ⟨g, o, none⟩ ∧ w.cell? ⟨g, o + i * 3, none⟩ = some (sv db[i].t.s) ∧ w.cell? ⟨g, o + i * 3 + 1, none⟩ = some (.slice a db[i].t.ks.length k) ∧ w.cell? ⟨g, o + i * 3 + 2, none⟩ = some (.slice b db[i].l.length m) ∧
      RdI S w (.slice a db[i].t.ks.length k) db[i].t.ks ∧ RdR S w (.slice b db[i].l.length m) db[i].l := by
  obtain ⟨qs, h1, h2, rfl⟩ := h
  have hi' : i < qs.length := by simpa using hi
  obtain ⟨g, o, e, c⟩ := h1.at i hi'
  obtain ⟨hr1, hr2⟩ := h2 qs[i] (List.getElem_mem _)
  obtain ⟨a, k, hx⟩ := rdI_ok.shape hr1
  obtain ⟨b, m, hy⟩ := rdR_ok.shape hr2
  have c0 := c 0 _ rfl
  have c1 := c 1 _ rfl
  have c2 := c 2 _ rfl
  simp only [List.getElem_map]
  rw [hx] at c1 hr1
  rw [hy] at c2 hr2
  exact ⟨g, o, a, k, b, m, e, c0, c1, c2, hr1, hr2⟩
def SlR (w : World) (c : List R) (db : List Tb) (s : List UInt8) (i : Value) (wr : World) : Prop := ∃ k : Nat, k ≤ db.length ∧ i = .int .i64 k ∧ Ext w wr ∧ c = scnL (db.drop k) s
set_option maxHeartbeats 4000000 in
set_option maxRecDepth 100000 in
theorem scan_prg (S : Nat → Prop) (db : List Tb) (s : List UInt8) (a1 a3 a4 : Option Addr) (n1 n3 n4 c1 c3 c4 : Nat) (vd : Value) (w : World) (h : RdB9 S w vd db) :
    Calls Tryz.prog 65 #[eaV (.slice a1 n1 c1) vd (.slice a3 n3 c3) (.slice a4 n4 c4), sv s] w (RoP S w (scnL db s)) := by
  obtain ⟨ad, cap, rfl, h1, h2⟩ := h.shape
  have H := Lib.hid h
  clear h
  obtain ⟨n, hn⟩ : ∃ n, n = db.length := ⟨_, rfl⟩
  have HN := Lib.hid hn
  rw [← hn] at h1 H ⊢
  clear hn
  obtain ⟨c, hc⟩ : ∃ c, c = scnL db s := ⟨_, rfl⟩
  have HC := Lib.hid hc
  rw [← hc]
  clear hc
  unfold maxLen at h2
  go_enter Tryz.func65, Tryz.ntmps65
  go_wp2_with fail
  go_loopw [10] (SlR w c db s) (fun i _ => n - (intOf i).toNat)
  case atStart => exact ⟨0, Nat.zero_le _, rfl, (Ext.refl _).alloc _ _, by rw [HC.out]; rfl⟩
  case round =>
    obtain ⟨k, hk, rfl, hE, hc⟩ := hrel
    have hkn : k ≤ n := by rw [HN.out]; exact hk
    by_cases hlt : k < n
    · have hlt' : k < db.length := by rw [← HN.out]; exact hlt
      rw [List.drop_eq_getElem_cons hlt'] at hc
      obtain ⟨g, o, a, q, b, m, rfl, d0', d1', d2', _, hr'⟩ := rd_Tb H.out k hlt'
      have d0 := hE.keeps d0'
      have d1 := hE.keeps d1'
      have d2 := hE.keeps d2'
      have HR := Lib.hid (rdR_ok.ext hr' hE)
      clear d0' d1' d2' hr'
      generalize db[k] = x at *
      obtain ⟨⟨xs, xk⟩, xl⟩ := x
      simp only at d0 d1 d2 hc HR
      obtain ⟨m1, hm1⟩ : ∃ m1, m1 = xk.length := ⟨_, rfl⟩
      obtain ⟨m2, hm2⟩ : ∃ m2, m2 = xl.length := ⟨_, rfl⟩
      rw [← hm1] at d1
      rw [← hm2] at d2 HR
      by_cases hz : xs = s
      · have hc2 : c = xl := by rw [hc]; exact if_pos hz
        have HC2 := Lib.hid hc2
        subst hz
        clear hc hc2 hm1 hm2
        go_wp2_with fail
        go_ret
        rw [HC2.out]
        exact ⟨_, rfl, rdR_ok.ext HR.out ((Ext.refl _).alloc _ _), hE.alloc _ _⟩
      · have hc2 : c = scnL (db.drop (k + 1)) s := by rw [hc]; exact if_neg hz
        have HC2 := Lib.hid hc2
        have hz1 : (xs == s) = false := by simpa using hz
        clear hc hc2 hm1 hm2
        go_wp2_with fail
        go_roundw
        case rel => exact ⟨k + 1, hlt', by go_num, hE.alloc _ _, HC2.out⟩
        case measure => simp [intOf]; omega
    · have HC2 := Lib.hid (show c = [] by rw [hc, List.drop_of_length_le (by have := HN.out; omega)]; rfl)
      clear hc
      go_wp2_with fail
      go_ret
      rw [HC2.out]
      exact ⟨_, rfl, rdR_nil S _, hE⟩
set_option maxHeartbeats 2000000 in
set_option maxRecDepth 100000 in
theorem holds_prg (es : List X) (p : Int) (row : List V) (a2 a3 a4 : Option Addr) (n2 n3 n4 c2 c3 c4 : Nat) (ve vr : Value) (w : World) (hl : RdG w ve es) (hr : RdG w vr row) (hs : es.length ≤ 1000) (hx : OkX es) (ho : OkR row) :
    Calls Tryz.prog 96 #[eaV ve (.slice a2 n2 c2) (.slice a3 n3 c3) (.slice a4 n4 c4), .int .i64 p, vr] w fun e w' => e = .returned (.bool (hldB es p row)) ∧ Ext w w' := by
  have HE := Lib.hid (fun w' (hE : Ext w w') => eval_prg es p row ve vr w' (hl.ext hE) (hr.ext hE) hs hx ho)
  obtain ⟨ad, cap, rfl, _, _⟩ := hl.shape
  obtain ⟨bd, bcap, rfl, _, _⟩ := hr.shape
  have hq : hldB es p row = decide ((evlV es p row).k = 3 ∧ (evlV es p row).n = 1) := rfl
  obtain ⟨q, hqe⟩ : ∃ q, q = hldB es p row := ⟨_, rfl⟩
  rw [← hqe] at hq ⊢
  generalize evlV es p row = z at HE hq
  obtain ⟨zk, zn, zs⟩ := z
  simp only at hq
  clear hl hr hs hx ho hqe
  obtain ⟨n, hn⟩ : ∃ n, n = es.length := ⟨_, rfl⟩
  obtain ⟨m, hm⟩ : ∃ m, m = row.length := ⟨_, rfl⟩
  rw [← hn, ← hm] at HE ⊢
  clear hn hm
  by_cases h1 : zk = 3
  · subst h1
    by_cases h2 : zn = 1
    · subst h2
      have HQ := Lib.hid (show q = true by rw [hq]; simp)
      clear hq
      go_enter Tryz.func96, Tryz.ntmps96
      go_wp2_with fail
      refine (HE.out _ ((Ext.refl _).alloc _ _)).mono ?_; rintro e w1 ⟨rfl, hE⟩
      go_wp2_with fail
      go_ret
      exact ⟨ret_bool HQ.out.symm, (((Ext.refl _).alloc _ _).trans hE).alloc _ _⟩
    · have HQ := Lib.hid (show q = false by rw [hq]; simp [h2])
      have h2' : (zn == 1) = false := by simpa using h2
      clear hq h2
      go_enter Tryz.func96, Tryz.ntmps96
      go_wp2_with fail
      refine (HE.out _ ((Ext.refl _).alloc _ _)).mono ?_; rintro e w1 ⟨rfl, hE⟩
      go_wp2_with fail
      go_ret
      exact ⟨ret_bool HQ.out.symm, (((Ext.refl _).alloc _ _).trans hE).alloc _ _⟩
  · have HQ := Lib.hid (show q = false by rw [hq]; simp [h1])
    have h1' : (zk == 3) = false := by simpa using h1
    clear hq h1
    go_enter Tryz.func96, Tryz.ntmps96
    go_wp2_with fail
    refine (HE.out _ ((Ext.refl _).alloc _ _)).mono ?_; rintro e w1 ⟨rfl, hE⟩
    go_wp2_with fail
    go_ret
    exact ⟨ret_bool HQ.out.symm, (((Ext.refl _).alloc _ _).trans hE).alloc _ _⟩
def EaR (W1 : World) (es : List X) (ex : List Int) (row : List V) (v i : Value) (wr : World) : Prop := ∃ k : Nat, k ≤ ex.length ∧ i = .int .i64 k ∧ OwnG tV.e W1 wr v (valL es (ex.take k) row)
theorem rd_litV1 (w : World) (k n : Int) (s : List UInt8) : RdG (w.alloc (.cells #[.int .i64 k, .int .i64 n, sv s] 58)) (.slice (some ⟨w.heap.size, 0, none⟩) 1 1) [(⟨k, n, s⟩ : V)] := rd_litG w [(⟨k, n, s⟩ : V)] _ _ _ 1 rfl rfl (by simp) rfl
set_option maxHeartbeats 4000000 in
set_option maxRecDepth 100000 in
theorem all_prg (es : List X) (ex : List Int) (row : List V) (a2 a3 a4 : Option Addr) (n2 n3 n4 c2 c3 c4 : Nat) (ve vx vr : Value) (w : World) (hl : RdG w ve es) (hxx : RdG w vx ex) (hr : RdG w vr row) (hs : es.length ≤ 1000) (hx : OkX es) (ho : OkR row) (he : ex.length ≤ 1000000) :
    Calls Tryz.prog 97 #[eaV ve (.slice a2 n2 c2) (.slice a3 n3 c3) (.slice a4 n4 c4), vx, vr] w fun e w' => ∃ v, e = .returned v ∧ OwnG tV.e w w' v (valL es ex row) := by
  have HE := Lib.hid (fun p w' (hE : Ext w w') => eval_prg es p row ve vr w' (hl.ext hE) (hr.ext hE) hs hx ho)
  obtain ⟨ad, cap, rfl, _, _⟩ := hl.shape
  obtain ⟨bd, bcap, rfl, _, _⟩ := hr.shape
  obtain ⟨xd, xcap, rfl, hx1, hx2⟩ := hxx.shape
  have HX := Lib.hid hxx
  have HS := Lib.hid he
  clear hl hr hs hx ho hxx he
  obtain ⟨n, hn⟩ : ∃ n, n = es.length := ⟨_, rfl⟩
  obtain ⟨m, hm⟩ : ∃ m, m = row.length := ⟨_, rfl⟩
  obtain ⟨t, ht⟩ : ∃ t, t = ex.length := ⟨_, rfl⟩
  have HT := Lib.hid ht
  rw [← hn, ← hm] at HE ⊢
  rw [← ht] at HX hx1 ⊢
  clear hn hm ht
  unfold maxLen at hx2
  obtain ⟨W1, hW⟩ : ∃ W1, W1 = w.alloc (.cells #[.slice ad n cap, .slice a2 n2 c2, .slice a3 n3 c3, .slice a4 n4 c4] 111) := ⟨_, rfl⟩
  have HW := Lib.hid (show Ext w W1 by rw [hW]; exact (Ext.refl _).alloc _ _)
  have hb0 : W1.cell? ⟨w.heap.size, 0, none⟩ = some (.slice ad n cap) := by rw [hW]; exact al_c w _ _ 0 _ rfl
  have HB := Lib.hid hb0
  have hW' := Lib.hid hW
  clear hb0 hW
  go_enter Tryz.func97, Tryz.ntmps97
  go_wp2_with fail
  go_loopw [7, 12] (EaR W1 es ex row) (fun _ i _ => t - (intOf i).toNat)
  case atStart => exact ⟨0, Nat.zero_le _, rfl, by rw [← hW'.out]; exact OwnG.nil _ _ _ (Ext.refl _)⟩
  case round =>
    obtain ⟨k, hk, rfl, hO⟩ := hrel
    have hkt : k ≤ t := by rw [HT.out]; exact hk
    have hb := hO.2.keeps HB.out
    by_cases hlt : k < t
    · have hlt' : k < ex.length := by rw [← HT.out]; exact hlt
      obtain ⟨g, o, rfl, d0'⟩ := rd_I HX.out k hlt'
      have d0 := hO.2.keeps (HW.out.keeps d0')
      clear d0'
      have hstep : valL es (ex.take (k + 1)) row = valL es (ex.take k) row ++ [evlV es ex[k] row] := by
        rw [List.take_succ_eq_append_getElem hlt']; exact List.map_append
      have HE1 := Lib.hid (fun w' (hE : Ext w w') => HE.out ex[k] w' hE)
      generalize hz : evlV es ex[k] row = z at HE1 hstep
      generalize ex[k] = x at *
      obtain ⟨zk, zn, zs⟩ := z
      have HST := Lib.hid hstep
      have HLN := Lib.hid (show (valL es (ex.take k) row).length ≤ 1000000 by unfold valL; rw [List.length_map, List.length_take]; have := HS.out; omega)
      have HL := Lib.hid hlt'
      clear hstep hz hlt'
      generalize valL es (ex.take k) row = pre at *
      go_wp2_with fail
      refine (HE1.out _ (HW.out.trans hO.2)).mono ?_; rintro e w2 ⟨rfl, hE⟩
      have hO2 := hO.ext hE
      go_wp2_with (at_builtin; refine appG tV rfl _ _ rfl W1 _ pre rfl (hO2.ext ((Ext.refl _).alloc _ _)) _ [⟨zk, zn, zs⟩] rfl (rd_litV1 w2 zk zn zs) (by have := HLN.out; simp; omega) ?_; intro v' w' hO' hg')
      go_roundw
      case rel => exact ⟨k + 1, HL.out, by go_num, by rw [HST.out]; exact hO'⟩
      case measure => simp [intOf]; omega
    · have hke : k = ex.length := by have := HT.out; omega
      rw [hke, List.take_length] at hO
      have HO := Lib.hid hO
      clear hke hO
      go_wp2_with fail
      go_ret
      exact ⟨_, rfl, HO.out.base HW.out⟩
end Go.Proofs.YtbplapkcleipiaaGreatDoor
