/- The laws' values, exactly; the laws' constants. -/
import Derived.Test.YtbplapkcleipiaaGreatDoorZz43
import Derived.Test.YtbplapkcleipiaaGreatDoorZz41
import Derived.Test.YtbplapkcleipiaaGreatDoorZz02
namespace Go.Proofs.YtbplapkcleipiaaGreatDoor
open Go.ChangeShapes Go.WideShapes Go.ChangeAt Go.RowKit

def txtW (q : Int) : List UInt8 := if q = 0 then [] else if q = 1 then [97] else [98, 39]
/-- law0's Value -/
def valW (col x : Int) : V := if x % 7 = 6 then nul else if col = 0 then ⟨1, x % 3 - 1, []⟩ else ⟨2, 0, txtW (x % 3)⟩
set_option maxHeartbeats 4000000 in
theorem valx0 (x : Int) (h0 : 0 ≤ x) (_h1 : x ≤ 65535) (w : World) : Calls Tryz.prog 49 #[.int .i64 0, .int .u16 x] w (fun e w' => e = .returned (vv (valW 0 x)) ∧ Ext w w') := by
  obtain ⟨m, hm⟩ : ∃ m, m = x % 7 := ⟨_, rfl⟩
  obtain ⟨q, hq⟩ : ∃ q, q = x % 3 := ⟨_, rfl⟩
  have hm1 : Int.tmod x 7 = m := by rw [Int.tmod_eq_emod_of_nonneg h0]; exact hm.symm
  have hq1 : Int.tmod x 3 = q := by rw [Int.tmod_eq_emod_of_nonneg h0]; exact hq.symm
  have hm2 := hm.symm
  have hq2 := hq.symm
  have hmb : 0 ≤ m ∧ m ≤ 6 := by omega
  have hqb : 0 ≤ q ∧ q ≤ 2 := by omega
  have hwm := wrapU m (by omega) (by omega)
  have hwq := wrapU q (by omega) (by omega)
  have hwi := wrapI q (by omega) (by omega)
  clear hm hq
  by_cases h6 : m = 6
  · subst h6
    have HVW := Lib.hid (show valW 0 x = ⟨0, 0, []⟩ by unfold valW; rw [if_pos hm2]; rfl)
    go_enter Tryz.func49, Tryz.ntmps49
    go_wp2_with fail
    exact bodyPost_ret (v := vv ⟨0, 0, []⟩) (by simp [results, Tryz.results49, go_sem, vv]) rfl ⟨by rw [HVW.out], by repeat (first | exact Ext.refl _ | refine Ext.alloc ?_ _ _ | refine Ext.setNew ?_ _ _ (by simp; try omega) _)⟩
  · have HVW := Lib.hid (show valW 0 x = ⟨1, q - 1, []⟩ by unfold valW; rw [if_neg (by rw [hm2]; exact h6), if_pos rfl, hq2])
    have h6' : (m == 6) = false := by simpa using h6
    go_enter Tryz.func49, Tryz.ntmps49
    go_wp2_with fail
    refine (int_val (q - 1) _).mono ?_; rintro e w1 ⟨rfl, hE⟩
    have k0 := hE.keeps (al_c w #[.int .i64 0, .int .i64 0, .string { data := #[] }] 58 0 _ rfl)
    have k1 := hE.keeps (al_c w #[.int .i64 0, .int .i64 0, .string { data := #[] }] 58 1 _ rfl)
    have k2 := hE.keeps (al_c w #[.int .i64 0, .int .i64 0, .string { data := #[] }] 58 2 _ rfl)
    have kf : ∀ j, w1.frozen? ⟨w.heap.size, j, none⟩ = false := fun j => (hE.2.1 ⟨w.heap.size, j, none⟩ (by simp)).trans (by simp [World.frozen?_alloc_at])
    have kf0 := kf 0
    have kf1 := kf 1
    have kf2 := kf 2
    have hsz : w.heap.size < w1.heap.size := World.block_lt_of_cell? _ _ k0
    have hE9 : Ext w w1 := ((Ext.refl _).alloc _ _).trans hE
    clear hE kf
    go_wp2_with fail
    exact bodyPost_ret (v := vv ⟨1, q - 1, []⟩) (by simp [results, Tryz.results49, go_sem, k0, k1, k2]) rfl ⟨by rw [HVW.out], by repeat (first | exact hE9 | exact Ext.refl _ | refine Ext.alloc ?_ _ _ | refine Ext.setNew ?_ _ _ (by simp; try omega) _)⟩
set_option maxHeartbeats 4000000 in
theorem valx1 (x : Int) (h0 : 0 ≤ x) (_h1 : x ≤ 65535) (w : World) : Calls Tryz.prog 49 #[.int .i64 1, .int .u16 x] w (fun e w' => e = .returned (vv (valW 1 x)) ∧ Ext w w') := by
  obtain ⟨m, hm⟩ : ∃ m, m = x % 7 := ⟨_, rfl⟩
  obtain ⟨q, hq⟩ : ∃ q, q = x % 3 := ⟨_, rfl⟩
  have hm1 : Int.tmod x 7 = m := by rw [Int.tmod_eq_emod_of_nonneg h0]; exact hm.symm
  have hq1 : Int.tmod x 3 = q := by rw [Int.tmod_eq_emod_of_nonneg h0]; exact hq.symm
  have hm2 := hm.symm
  have hq2 := hq.symm
  have hmb : 0 ≤ m ∧ m ≤ 6 := by omega
  have hqb : 0 ≤ q ∧ q ≤ 2 := by omega
  have hwm := wrapU m (by omega) (by omega)
  have hwq := wrapU q (by omega) (by omega)
  have hwi := wrapI q (by omega) (by omega)
  clear hm hq
  by_cases h6 : m = 6
  · subst h6
    have HVW := Lib.hid (show valW 1 x = ⟨0, 0, []⟩ by unfold valW; rw [if_pos hm2]; rfl)
    go_enter Tryz.func49, Tryz.ntmps49
    go_wp2_with fail
    exact bodyPost_ret (v := vv ⟨0, 0, []⟩) (by simp [results, Tryz.results49, go_sem, vv]) rfl ⟨by rw [HVW.out], by repeat (first | exact Ext.refl _ | refine Ext.alloc ?_ _ _ | refine Ext.setNew ?_ _ _ (by simp; try omega) _)⟩
  · have hvw : valW 1 x = ⟨2, 0, txtW q⟩ := by unfold valW; rw [if_neg (by rw [hm2]; exact h6), if_neg (by decide), hq2]
    have h6' : (m == 6) = false := by simpa using h6
    rcases (show q = 0 ∨ q = 1 ∨ q = 2 by omega) with rfl | rfl | rfl
    · have HVW := Lib.hid (show valW 1 x = ⟨2, 0, []⟩ from hvw)
      clear hvw
      go_enter Tryz.func49, Tryz.ntmps49
      go_wp2_with fail
      exact bodyPost_ret (v := vv ⟨2, 0, []⟩) (by simp [results, Tryz.results49, go_sem, vv]) rfl ⟨by rw [HVW.out], by repeat (first | exact Ext.refl _ | refine Ext.alloc ?_ _ _ | refine Ext.setNew ?_ _ _ (by simp; try omega) _)⟩
    · have HVW := Lib.hid (show valW 1 x = ⟨2, 0, [97]⟩ from hvw)
      clear hvw
      go_enter Tryz.func49, Tryz.ntmps49
      go_wp2_with fail
      exact bodyPost_ret (v := vv ⟨2, 0, [97]⟩) (by simp [results, Tryz.results49, go_sem, vv]) rfl ⟨by rw [HVW.out], by repeat (first | exact Ext.refl _ | refine Ext.alloc ?_ _ _ | refine Ext.setNew ?_ _ _ (by simp; try omega) _)⟩
    · have HVW := Lib.hid (show valW 1 x = ⟨2, 0, [98, 39]⟩ from hvw)
      clear hvw
      go_enter Tryz.func49, Tryz.ntmps49
      go_wp2_with fail
      exact bodyPost_ret (v := vv ⟨2, 0, [98, 39]⟩) (by simp [results, Tryz.results49, go_sem, vv]) rfl ⟨by rw [HVW.out], by repeat (first | exact Ext.refl _ | refine Ext.alloc ?_ _ _ | refine Ext.setNew ?_ _ _ (by simp; try omega) _)⟩
end Go.Proofs.YtbplapkcleipiaaGreatDoor
/- The laws' constants, in plain terms. -/
namespace Go.Proofs.YtbplapkcleipiaaGreatDoor

/-- law0's constant -/
def cstW (kd x : Int) : V := if kd = 1 then valW 0 (x % 6) else if kd = 2 then valW 1 (x % 6) else if kd = 3 then ⟨3, x % 2, []⟩ else nul
theorem txtW_len (q : Int) : (txtW q).length ≤ 2 := by unfold txtW; split <;> (try split) <;> simp
/-- a constant is valid, and of its kind -/
theorem cstW_kind (kd x : Int) (h : 1 ≤ kd ∧ kd ≤ 3) : (cstW kd x).k = kd ∧ vldB (cstW kd x) = true := by
  have h6 : ¬ x % 6 % 7 = 6 := by omega
  rcases (show kd = 1 ∨ kd = 2 ∨ kd = 3 by omega) with rfl | rfl | rfl
  · unfold cstW valW
    rw [if_pos rfl, if_neg h6, if_pos rfl]
    exact ⟨rfl, by simp [vldB]⟩
  · unfold cstW valW
    rw [if_neg (by decide), if_pos rfl, if_neg h6, if_neg (by decide)]
    refine ⟨rfl, ?_⟩
    simp [vldB]
    exact Nat.le_trans (txtW_len _) (by omega)
  · unfold cstW
    rw [if_neg (by decide), if_neg (by decide), if_pos rfl]
    refine ⟨rfl, ?_⟩
    simp [vldB]; omega
end Go.Proofs.YtbplapkcleipiaaGreatDoor
/- The laws' constants. -/
namespace Go.Proofs.YtbplapkcleipiaaGreatDoor
open Go.ChangeShapes Go.WideShapes Go.ChangeAt Go.RowKit

theorem okN_two : okN 2 := okN_small (by decide) (by decide)
theorem okN_three : okN 3 := okN_small (by decide) (by decide)
theorem okN_zero : okN 0 := okN_small (by decide) (by decide)
theorem valW_good (T : Nat) (hT : 2 ≤ T) (col x : Int) : GoodV T (valW col x) := by
  unfold valW
  split
  · exact good_nul T
  · split
    · have h : okN (x % 3 - 1) := okN_small (by omega) (by omega)
      exact ⟨okN_one, h, Nat.zero_le _⟩
    · have h := txtW_len (x % 3)
      exact ⟨okN_two, okN_zero, Nat.le_trans h hT⟩
theorem cstW_good (T : Nat) (hT : 2 ≤ T) (kd x : Int) : GoodV T (cstW kd x) := by
  unfold cstW
  split
  · exact valW_good T hT _ _
  · split
    · exact valW_good T hT _ _
    · split
      · have h : okN (x % 2) := okN_small (by omega) (by omega)
        exact ⟨okN_three, h, Nat.zero_le _⟩
      · exact good_nul T
set_option maxHeartbeats 4000000 in
theorem const_prg (kd x : Int) (h0 : 0 ≤ x) (w : World) : Calls Tryz.prog 39 #[.int .i64 kd, .int .u16 x] w fun e w' => e = .returned (vv (cstW kd x)) ∧ Ext w w' := by
  obtain ⟨m, hm⟩ : ∃ m, m = x % 6 := ⟨_, rfl⟩
  obtain ⟨q, hq⟩ : ∃ q, q = x % 2 := ⟨_, rfl⟩
  have hm1 : Int.tmod x 6 = m := by rw [Int.tmod_eq_emod_of_nonneg h0]; exact hm.symm
  have hq1 : Int.tmod x 2 = q := by rw [Int.tmod_eq_emod_of_nonneg h0]; exact hq.symm
  have hm2 := hm.symm
  have hq2 := hq.symm
  have hwm := wrapU m (by omega) (by omega)
  have hwq := wrapU q (by omega) (by omega)
  have hwi := wrapI q (by omega) (by omega)
  have HV0 := Lib.hid (fun w => valx0 m (by omega) (by omega) w)
  have HV1 := Lib.hid (fun w => valx1 m (by omega) (by omega) w)
  have HC := Lib.hid (show cstW kd x = if kd = 1 then valW 0 m else if kd = 2 then valW 1 m else if kd = 3 then ⟨3, q, []⟩ else nul by unfold cstW; rw [hm, hq])
  have HZ := Lib.hid (show ∀ w1, Ext (w.alloc (.cells #[.int .i64 0, .int .i64 0, .string { data := #[] }] 58)) w1 → (w1.cell? ⟨w.heap.size, 0, none⟩ = some (.int .i64 0) ∧ w1.cell? ⟨w.heap.size, 1, none⟩ = some (.int .i64 0) ∧ w1.cell? ⟨w.heap.size, 2, none⟩ = some (.string { data := #[] })) ∧ (w1.frozen? ⟨w.heap.size, 0, none⟩ = false ∧ w1.frozen? ⟨w.heap.size, 1, none⟩ = false ∧ w1.frozen? ⟨w.heap.size, 2, none⟩ = false) ∧ w.heap.size < w1.heap.size ∧ Ext w w1 from fun w1 hE => by
    have hb := (Bxn.new w #[.int .i64 0, .int .i64 0, .string { data := #[] }] 58).ext hE
    exact ⟨⟨(hb.2 0 _ rfl).1, (hb.2 1 _ rfl).1, (hb.2 2 _ rfl).1⟩, ⟨(hb.2 0 _ rfl).2, (hb.2 1 _ rfl).2, (hb.2 2 _ rfl).2⟩, hb.1, ((Ext.refl _).alloc _ _).trans hE⟩)
  clear hm hq
  by_cases k1 : kd = 1
  · subst k1
    have HQ := Lib.hid (show cstW 1 x = valW 0 m by rw [HC.out]; rfl)
    generalize valW 0 m = v at HV0 HQ
    obtain ⟨vk, vn, vs⟩ := v
    go_enter Tryz.func39, Tryz.ntmps39
    go_wp2_with fail
    refine (HV0.out _).mono ?_; rintro e w1 ⟨rfl, hE⟩
    obtain ⟨⟨b0, b1, b2⟩, ⟨f0, f1, f2⟩, hs, hE9⟩ := HZ.out w1 hE
    clear hE
    go_wp2_with fail
    exact bodyPost_ret (v := vv ⟨vk, vn, vs⟩) (by simp [results, Tryz.results39, go_sem, b0, b1, b2]) rfl ⟨by rw [HQ.out], by repeat (first | exact hE9 | refine Ext.setNew ?_ _ _ (by simp; try omega) _)⟩
  by_cases k2 : kd = 2
  · subst k2
    have HQ := Lib.hid (show cstW 2 x = valW 1 m by rw [HC.out]; rfl)
    generalize valW 1 m = v at HV1 HQ
    obtain ⟨vk, vn, vs⟩ := v
    clear k1
    go_enter Tryz.func39, Tryz.ntmps39
    go_wp2_with fail
    refine (HV1.out _).mono ?_; rintro e w1 ⟨rfl, hE⟩
    obtain ⟨⟨b0, b1, b2⟩, ⟨f0, f1, f2⟩, hs, hE9⟩ := HZ.out w1 hE
    clear hE
    go_wp2_with fail
    exact bodyPost_ret (v := vv ⟨vk, vn, vs⟩) (by simp [results, Tryz.results39, go_sem, b0, b1, b2]) rfl ⟨by rw [HQ.out], by repeat (first | exact hE9 | refine Ext.setNew ?_ _ _ (by simp; try omega) _)⟩
  by_cases k3 : kd = 3
  · subst k3
    have HQ := Lib.hid (show cstW 3 x = ⟨3, q, []⟩ by rw [HC.out]; rfl)
    clear k1 k2
    go_enter Tryz.func39, Tryz.ntmps39
    go_wp2_with fail
    exact bodyPost_ret (v := vv ⟨3, q, []⟩) (by simp [results, Tryz.results39, go_sem, vv]) rfl ⟨by rw [HQ.out], by repeat (first | exact Ext.refl _ | refine Ext.alloc ?_ _ _ | refine Ext.setNew ?_ _ _ (by simp; try omega) _)⟩
  · have HQ := Lib.hid (show cstW kd x = nul by rw [HC.out, if_neg k1, if_neg k2, if_neg k3])
    have e1 : (kd == 1) = false := by simpa using k1
    have e2 : (kd == 2) = false := by simpa using k2
    have e3 : (kd == 3) = false := by simpa using k3
    go_enter Tryz.func39, Tryz.ntmps39
    go_wp2_with fail
    exact bodyPost_ret (v := vv ⟨0, 0, []⟩) (by simp [results, Tryz.results39, go_sem, vv]) rfl ⟨by rw [HQ.out]; rfl, by repeat (first | exact Ext.refl _ | refine Ext.alloc ?_ _ _ | refine Ext.setNew ?_ _ _ (by simp; try omega) _)⟩
end Go.Proofs.YtbplapkcleipiaaGreatDoor
/- Predicates that the laws build are valid; more expressions behind change no type; in plain lists. -/
namespace Go.Proofs.YtbplapkcleipiaaGreatDoor

theorem chO_col {col : Int} {cols : List Int} (pre : List (Int × Int)) (h : isIx col cols.length = true) : chO ⟨2, 0, 0, col, nul⟩ pre cols = (atI cols col, 0) := by
  unfold chO
  have e : ari 2 = 0 := rfl
  simp only [e, lgl, h]
  simp
theorem chO_con {c : V} (pre : List (Int × Int)) (cols : List Int) (h : vldB c = true) : chO ⟨1, 0, 0, 0, c⟩ pre cols = (c.k, 0) := by
  unfold chO
  have e : ari 1 = 0 := rfl
  simp only [e, lgl, h]
  simp
theorem chO_null {a : Int} {pre : List (Int × Int)} (cols : List Int) (h : isIx a pre.length = true) (k : (atK pre a).2 = 0) : chO ⟨11, a, 0, 0, nul⟩ pre cols = (3, 0) := by
  unfold chO
  have e : ari 11 = 1 := rfl
  simp only [e, lgl, h, unO, k]
  simp
theorem chO_not {a : Int} {pre : List (Int × Int)} (cols : List Int) (h : isIx a pre.length = true) (k : atK pre a = (3, 0)) : chO ⟨10, a, 0, 0, nul⟩ pre cols = (3, 0) := by
  unfold chO
  have e : ari 10 = 1 := rfl
  have e2 : accB 3 3 = true := rfl
  simp only [e, lgl, h, unO, k, e2]
  simp
theorem chO_cmp {op a b kd : Int} {pre : List (Int × Int)} (cols : List Int) (ho : op = 6 ∨ op = 7) (h : isIx a pre.length = true) (g : isIx b pre.length = true) (k : atK pre a = (kd, 0)) (l : atK pre b = (kd, 0)) : chO ⟨op, a, b, 0, nul⟩ pre cols = (3, 0) := by
  unfold chO
  have e : ari op = 2 := by rcases ho with rfl | rfl <;> rfl
  have o1 : ¬ op = 1 := by omega
  have o2 : ¬ op = 2 := by omega
  have o3 : ¬ (3 ≤ op ∧ op ≤ 5) := by omega
  simp only [e, lgl, h, g, biO, k, l, o1, o2, o3, ho]
  simp
/-- the second operand of a comparison: of the kind of the first -/
def SecOk (cols : List Int) (kd : Int) (s : X) : Prop := (∃ j, s = ⟨2, 0, 0, j, nul⟩ ∧ isIx j cols.length = true ∧ atI cols j = kd) ∨ ∃ c, s = ⟨1, 0, 0, 0, c⟩ ∧ vldB c = true ∧ c.k = kd
theorem chO_sec {cols : List Int} {kd : Int} {s : X} (pre : List (Int × Int)) (h : SecOk cols kd s) : chO s pre cols = (kd, 0) := by
  rcases h with ⟨j, rfl, h1, h2⟩ | ⟨c, rfl, h1, h2⟩
  · rw [chO_col pre h1, h2]
  · rw [chO_con pre cols h1, h2]
theorem atK_nat (l : List (Int × Int)) (n : Nat) : atK l (n : Int) = l.getD n (0, 0) := rfl
theorem ix_nat {n k : Nat} (h : n < k) : isIx (n : Int) (k : Int) = true := (isIx_iff _ _).2 ⟨Int.natCast_nonneg _, by omega⟩
theorem chkV_at {l : List X} {n : Nat} {cols : List Int} (h : l.length ≤ 200) (hn : n < l.length) : chkV l (n : Int) cols = (chs cols l).getD n (0, 0) := by
  unfold chkV
  rw [if_neg (by omega), if_neg (by rw [ix_nat hn]; simp)]
  rfl
theorem prdC_of {l : List X} {n : Nat} {cols : List Int} (h : l.length ≤ 200) (hn : n < l.length) (k : (chs cols l).getD n (0, 0) = (3, 0)) : prdC l (n : Int) cols = (cols, 0) := by
  unfold prdC
  rw [chkV_at h hn, k, if_neg (by simp), if_pos (by rfl)]
/-- the three forms -/
theorem pre_two (es : List X) {cols : List Int} {i : Int} (hi : isIx i cols.length = true) (x : X) : chs cols (es ++ [⟨2, 0, 0, i, nul⟩, x]) = chs cols es ++ [(atI cols i, 0), chO x (chs cols es ++ [(atI cols i, 0)]) cols] := by
  have e : es ++ [(⟨2, 0, 0, i, nul⟩ : X), x] = (es ++ [⟨2, 0, 0, i, nul⟩]) ++ [x] := by simp
  rw [e, chs_snoc, chs_snoc, chO_col _ hi, List.append_assoc]; rfl
theorem getD_k {α : Type} (a t : List α) (d : α) (n k : Nat) (h : n = a.length + k) : (a ++ t).getD n d = t.getD k d := by
  subst h
  rw [List.getD_eq_getElem?_getD, List.getD_eq_getElem?_getD, List.getElem?_append_right (by omega), Nat.add_sub_cancel_left]
theorem prd_a (es : List X) {cols : List Int} {i : Int} (hi : isIx i cols.length = true) (hl : es.length + 2 ≤ 200) : prdC (es ++ [⟨2, 0, 0, i, nul⟩, ⟨11, es.length, 0, 0, nul⟩]) ((es.length + 1 : Nat) : Int) cols = (cols, 0) := by
  refine prdC_of (by simp; omega) (by simp) ?_
  rw [pre_two es hi, getD_k _ _ _ _ 1 (by rw [chs_len])]
  refine chO_null cols ?_ ?_
  · rw [List.length_append, chs_len]; exact ix_nat (by simp)
  · rw [atK_nat, getD_k _ _ _ _ 0 (by rw [chs_len, Nat.add_zero])]; rfl
theorem pre_three (es : List X) {cols : List Int} {i o : Int} {s : X} (ho : o = 6 ∨ o = 7) (hi : isIx i cols.length = true) (hs : SecOk cols (atI cols i) s) : chs cols (es ++ [⟨2, 0, 0, i, nul⟩, s, ⟨o, es.length, ((es.length + 1 : Nat) : Int), 0, nul⟩]) = chs cols es ++ [(atI cols i, 0), (atI cols i, 0), (3, 0)] := by
  have e : ∀ z : X, es ++ [(⟨2, 0, 0, i, nul⟩ : X), s, z] = (es ++ [⟨2, 0, 0, i, nul⟩, s]) ++ [z] := fun z => by simp
  rw [e, chs_snoc, pre_two es hi, chO_sec _ hs]
  rw [chO_cmp cols ho (kd := atI cols i), List.append_assoc]; rfl
  · rw [List.length_append, chs_len]; exact ix_nat (by simp)
  · rw [List.length_append, chs_len]; exact ix_nat (by simp)
  · rw [atK_nat, getD_k _ _ _ _ 0 (by rw [chs_len, Nat.add_zero])]; rfl
  · rw [atK_nat, getD_k _ _ _ _ 1 (by rw [chs_len])]; rfl
theorem prd_b (es : List X) {cols : List Int} {i o : Int} {s : X} (ho : o = 6 ∨ o = 7) (hi : isIx i cols.length = true) (hs : SecOk cols (atI cols i) s) (hl : es.length + 3 ≤ 200) : prdC (es ++ [⟨2, 0, 0, i, nul⟩, s, ⟨o, es.length, ((es.length + 1 : Nat) : Int), 0, nul⟩]) ((es.length + 2 : Nat) : Int) cols = (cols, 0) := by
  refine prdC_of (by simp; omega) (by simp) ?_
  rw [pre_three es ho hi hs, getD_k _ _ _ _ 2 (by rw [chs_len])]; rfl
theorem prd_c (es : List X) {cols : List Int} {i o : Int} {s : X} (ho : o = 6 ∨ o = 7) (hi : isIx i cols.length = true) (hs : SecOk cols (atI cols i) s) (hl : es.length + 4 ≤ 200) : prdC (es ++ [⟨2, 0, 0, i, nul⟩, s, ⟨o, es.length, ((es.length + 1 : Nat) : Int), 0, nul⟩, ⟨10, ((es.length + 2 : Nat) : Int), 0, 0, nul⟩]) ((es.length + 3 : Nat) : Int) cols = (cols, 0) := by
  refine prdC_of (by simp; omega) (by simp) ?_
  have e : ∀ y z : X, es ++ [(⟨2, 0, 0, i, nul⟩ : X), s, y, z] = (es ++ [⟨2, 0, 0, i, nul⟩, s, y]) ++ [z] := fun y z => by simp
  rw [e, chs_snoc, pre_three es ho hi hs]
  rw [getD_last _ _ _ _ (by rw [List.length_append, chs_len]; rfl)]
  refine chO_not cols ?_ ?_
  · rw [List.length_append, chs_len]; exact ix_nat (by simp)
  · rw [atK_nat, getD_k _ _ _ _ 2 (by rw [chs_len])]; rfl
/-- more expressions behind -/
theorem chkV_more {es : List X} {root : Int} {cols : List Int} {t : Int} (h : chkV es root cols = (t, 0)) (more : List X) (hl : (es ++ more).length ≤ 200) : chkV (es ++ more) root cols = (t, 0) := by
  unfold chkV at h
  split at h
  · simp at h
  split at h
  · simp at h
  rename_i h1 h2
  have h3 := (isIx_iff root es.length).1 (by simpa using h2)
  obtain ⟨n, rfl⟩ : ∃ n : Nat, root = (n : Int) := ⟨root.toNat, by omega⟩
  rw [chkV_at hl (by rw [List.length_append]; omega), chs_at cols es more n (by omega)]
  exact h
theorem prdC_more {es : List X} {p : Int} {cols : List Int} (h : prdC es p cols = (cols, 0)) (more : List X) (hl : (es ++ more).length ≤ 200) : prdC (es ++ more) p cols = (cols, 0) := by
  unfold prdC at h
  split at h
  · rename_i c; exact absurd (congrArg Prod.snd h) c
  rename_i c
  split at h
  · rename_i d
    have e : chkV es p cols = ((chkV es p cols).1, 0) := Prod.ext rfl (by simpa using c)
    unfold prdC
    rw [chkV_more e more hl, if_neg (by simp), if_pos d]
  · simp at h
end Go.Proofs.YtbplapkcleipiaaGreatDoor
/- Queries that the laws build, node by node, in plain lists: each is valid. -/
namespace Go.Proofs.YtbplapkcleipiaaGreatDoor

theorem mapE_congr {α β : Type} {f g : α → β × Int} : ∀ {l : List α}, (∀ x ∈ l, f x = g x) → mapE f l = mapE g l
  | [], _ => rfl
  | x :: l, h => by
    have h1 := h x (by simp)
    have h2 := mapE_congr (l := l) fun y hy => h y (List.mem_cons_of_mem _ hy)
    unfold mapE
    rw [h1, h2]
theorem typC_more {es : List X} {ex cols : List Int} (h : (typC es ex cols).2 = 0) (more : List X) (hl : (es ++ more).length ≤ 200) : typC (es ++ more) ex cols = typC es ex cols := by
  unfold typC at h ⊢
  refine mapE_congr fun x hx => ?_
  have h1 := (mapE_iff _ ex).1 h x hx
  have e : chkV es x cols = ((chkV es x cols).1, 0) := Prod.ext rfl h1
  rw [chkV_more e more hl, e]
theorem argC_more {es : List X} {cols : List Int} {g : Int × Int} (h : (argC es cols g).2 = 0) (more : List X) (hl : (es ++ more).length ≤ 200) : argC (es ++ more) cols g = argC es cols g := by
  unfold argC at h ⊢
  by_cases c : g.1 = 1
  · rw [if_pos c, if_pos c]
  · rw [if_neg c] at h
    rw [if_neg c, if_neg c]
    by_cases d : 2 ≤ g.1 ∧ g.1 ≤ 4
    · rw [if_pos d] at h
      rw [if_pos d, if_pos d]
      have e : chkV es g.2 cols = ((chkV es g.2 cols).1, 0) := Prod.ext rfl h
      rw [chkV_more e more hl, e]
    · rw [if_neg d, if_neg d]
theorem grpC_more {es : List X} {ex cols : List Int} {ag : List (Int × Int)} (h : (grpC es ex ag cols).2 = 0) (more : List X) (hl : (es ++ more).length ≤ 200) : grpC (es ++ more) ex ag cols = grpC es ex ag cols := by
  unfold grpC at h
  split at h
  · rename_i c; exact absurd h c
  rename_i c1
  split at h
  · rename_i c; exact absurd h c
  rename_i c2
  split at h
  · simp at h
  rename_i c3
  have t1 : (typC es ex cols).2 = 0 := by simpa using c1
  have t2 : (mapE (argC es cols) ag).2 = 0 := by simpa using c2
  have a1 : ∀ g ∈ ag, argC (es ++ more) cols g = argC es cols g := fun g hg => argC_more ((mapE_iff _ ag).1 t2 g hg) more hl
  have e1 := typC_more t1 more hl
  have e2 : mapE (argC (es ++ more) cols) ag = mapE (argC es cols) ag := mapE_congr a1
  have e3 : ag.any (badS (es ++ more) cols) = ag.any (badS es cols) := by
    rw [Bool.eq_iff_iff, List.any_eq_true, List.any_eq_true]
    refine exists_congr fun g => and_congr_right fun hg => ?_
    unfold badS; rw [a1 g hg]
  have e4 : (ex.map fun x => (chkV (es ++ more) x cols).1) = ex.map fun x => (chkV es x cols).1 := List.map_congr_left fun x hx => by
    have e : chkV es x cols = ((chkV es x cols).1, 0) := Prod.ext rfl ((mapE_iff _ ex).1 t1 x hx)
    rw [chkV_more e more hl, e]
  have e5 : (ag.map fun g => tyA g.1 (argC (es ++ more) cols g).1) = ag.map fun g => tyA g.1 (argC es cols g).1 := List.map_congr_left fun g hg => by rw [a1 g hg]
  unfold grpC
  rw [e1, e2, e3, e4, e5]
theorem prdC_same {es : List X} {p : Int} {cols : List Int} (h : (prdC es p cols).2 = 0) : prdC es p cols = (cols, 0) := by
  unfold prdC at h ⊢
  split at h
  · rename_i c; exact absurd h c
  rename_i c
  rw [if_neg c]
  split at h
  · rename_i d; rw [if_pos d]
  · simp at h
theorem colO_more {es : List X} {ts : List Tt} {n : Nd} {done : List (List Int)} (h : (colO es ts n done).2 = 0) (more : List X) (hl : (es ++ more).length ≤ 200) : colO (es ++ more) ts n done = colO es ts n done := by
  unfold colO at h ⊢
  by_cases c1 : n.k = 1
  · rw [if_pos c1, if_pos c1]
  rw [if_neg c1] at h
  rw [if_neg c1, if_neg c1]
  by_cases c2 : n.k = 2
  · rw [if_pos c2] at h
    rw [if_pos c2, if_pos c2, prdC_same h]
    exact prdC_more (prdC_same h) more hl
  rw [if_neg c2] at h
  rw [if_neg c2, if_neg c2]
  by_cases c3 : n.k = 3
  · rw [if_pos c3] at h
    rw [if_pos c3, if_pos c3]
    exact typC_more h more hl
  rw [if_neg c3] at h
  rw [if_neg c3, if_neg c3]
  by_cases c4 : n.k = 4 ∨ n.k = 5
  · rw [if_pos c4] at h
    rw [if_pos c4, if_pos c4, prdC_same h]
    exact prdC_more (prdC_same h) more hl
  rw [if_neg c4] at h
  rw [if_neg c4, if_neg c4]
  by_cases c5 : n.k = 6 ∨ n.k = 7 ∨ n.k = 8
  · rw [if_pos c5, if_pos c5]
  rw [if_neg c5] at h
  rw [if_neg c5, if_neg c5]
  by_cases c6 : n.k = 10
  · rw [if_pos c6] at h
    rw [if_pos c6, if_pos c6]
    exact grpC_more h more hl
  · rw [if_neg c6, if_neg c6]
theorem chkN_more {es : List X} {ts : List Tt} {n : Nd} {done : List (List Int)} {c : List Int} (h : chkN es ts n done = (c, 0)) (more : List X) (hl : (es ++ more).length ≤ 200) : chkN (es ++ more) ts n done = (c, 0) := by
  unfold chkN at h ⊢
  split at h
  · simp at h
  rename_i c1
  rw [if_neg c1]
  split at h
  · simp at h
  rename_i c2
  rw [if_neg c2]
  have h0 : (colO es ts n done).2 = 0 := by
    refine Classical.byContradiction fun k => ?_
    unfold wdC at h
    rw [if_pos k] at h
    exact k (congrArg Prod.snd h)
  rw [colO_more h0 more hl]; exact h
theorem colsQ_more {es : List X} {ts : List Tt} (more : List X) (hl : (es ++ more).length ≤ 200) : ∀ (l : List Nd) {done c : List (List Int)}, colsQ es ts l done = (c, 0) → colsQ (es ++ more) ts l done = (c, 0)
  | [], _, _, h => h
  | n :: l, done, c, h => by
    unfold colsQ at h ⊢
    split at h
    · rename_i k; exact absurd (congrArg Prod.snd h) k
    rename_i k
    have e : chkN es ts n done = ((chkN es ts n done).1, 0) := Prod.ext rfl (by simpa using k)
    rw [chkN_more e more hl, if_neg (by simp)]
    exact colsQ_more more hl l h
theorem colsQ_snoc {es : List X} {ts : List Tt} {n : Nd} {c : List (List Int)} {o : List Int} : ∀ (l : List Nd) {done : List (List Int)}, colsQ es ts l done = (c, 0) → chkN es ts n c = (o, 0) → colsQ es ts (l ++ [n]) done = (c ++ [o], 0)
  | [], done, h, k => by
    have e : done = c := congrArg Prod.fst h
    subst e
    show colsQ es ts [n] done = _
    unfold colsQ
    rw [k, if_neg (by simp)]; rfl
  | m :: l, done, h, k => by
    rw [List.cons_append]
    unfold colsQ at h ⊢
    split at h
    · rename_i q; exact absurd (congrArg Prod.snd h) q
    rename_i q
    rw [if_neg q]
    exact colsQ_snoc l h k
/-- a query while it is built: valid, its columns ks -/
structure QOk (ts : List Tt) (es : List X) (ns : List Nd) (ks : List (List Int)) : Prop where
  cols : colsQ es ts ns [] = (ks, 0)
  len : ks.length = ns.length
theorem QOk.add {ts : List Tt} {es : List X} {ns : List Nd} {ks : List (List Int)} (h : QOk ts es ns ks) (more : List X) (hl : (es ++ more).length ≤ 200) {n : Nd} {o : List Int} (k : chkN (es ++ more) ts n ks = (o, 0)) : QOk ts (es ++ more) (ns ++ [n]) (ks ++ [o]) :=
  ⟨colsQ_snoc ns (colsQ_more more hl ns h.cols) k, by rw [List.length_append, List.length_append, h.len]; rfl⟩
theorem QOk.chk {ts : List Tt} {es : List X} {ns : List Nd} {ks : List (List Int)} (h : QOk ts es ns ks) (h0 : 0 < ns.length) (h1 : ns.length ≤ 40) (h2 : es.length ≤ 200) : chkQ es ts ns = (ks.getLastD [], 0) := by
  have e : colQ es ts ns = (ks, 0) := by
    unfold colQ
    rw [if_neg (by omega)]; exact h.cols
  unfold chkQ
  rw [e, if_neg (by simp)]
/-- the nodes -/
theorem wd_ok {c : List Int} (h : 0 < c.length) (k : c.length ≤ 64) : wdC (c, 0) = (c, 0) := by
  unfold wdC
  rw [if_neg (by simp), if_neg (by simp only; omega)]
theorem chk_one {es : List X} {ts : List Tt} {n : Nd} {done : List (List Int)} {o : List Int} (hk : inpN n.k = 1) (ha : isIx n.a done.length = true) (h : colO es ts n done = (o, 0)) (h0 : 0 < o.length) (h1 : o.length ≤ 64) : chkN es ts n done = (o, 0) := by
  unfold chkN
  rw [if_neg (by rw [hk]; decide), if_neg (by rw [hk, ha]; simp), h]
  exact wd_ok h0 h1
theorem chk_bi {es : List X} {ts : List Tt} {n : Nd} {done : List (List Int)} {o : List Int} (hk : inpN n.k = 2) (ha : isIx n.a done.length = true) (hb : isIx n.b done.length = true) (h : colO es ts n done = (o, 0)) (h0 : 0 < o.length) (h1 : o.length ≤ 64) : chkN es ts n done = (o, 0) := by
  unfold chkN
  rw [if_neg (by rw [hk]; decide), if_neg (by rw [hk, ha, hb]; simp), h]
  exact wd_ok h0 h1
theorem cmn_self : ∀ a : List Int, cmn a a = some a
  | [] => rfl
  | x :: a => by
    unfold cmn
    rw [if_pos (Or.inl rfl), cmn_self a]; rfl
theorem cmnC_self (a : List Int) : cmnC a a = (a, 0) := by unfold cmnC; rw [cmn_self]
/-- columns one after the other -/
def colX (ks : List Int) (x n : Nat) : List X := (List.range n).map fun i => ⟨2, 0, 0, (((x / 2 + i) % ks.length : Nat) : Int), nul⟩
def colR (m n : Nat) : List Int := (List.range n).map fun i : Nat => ((m + i : Nat) : Int)
def colK (ks : List Int) (x n : Nat) : List Int := (List.range n).map fun i => atI ks (((x / 2 + i) % ks.length : Nat) : Int)
theorem colX_len (ks : List Int) (x n : Nat) : (colX ks x n).length = n := by simp [colX]
theorem colX_succ (ks : List Int) (x n : Nat) : colX ks x (n + 1) = colX ks x n ++ [⟨2, 0, 0, (((x / 2 + n) % ks.length : Nat) : Int), nul⟩] := by unfold colX; rw [List.range_succ, List.map_append]; rfl
theorem colR_succ (m n : Nat) : colR m (n + 1) = colR m n ++ [((m + n : Nat) : Int)] := by unfold colR; rw [List.range_succ, List.map_append]; rfl
theorem colK_succ (ks : List Int) (x n : Nat) : colK ks x (n + 1) = colK ks x n ++ [atI ks (((x / 2 + n) % ks.length : Nat) : Int)] := by unfold colK; rw [List.range_succ, List.map_append]; rfl
theorem chs_colX (es : List X) {ks : List Int} (h0 : 0 < ks.length) (x : Nat) : ∀ n, chs ks (es ++ colX ks x n) = chs ks es ++ (colK ks x n).map fun k => (k, (0 : Int))
  | 0 => by simp [colX, colK]
  | n + 1 => by
    rw [colX_succ, colK_succ, ← List.append_assoc, chs_snoc, chs_colX es h0 x n, chO_col _ (ix_nat (Nat.mod_lt _ h0)), List.map_append, List.append_assoc]
    rfl
theorem chkV_colX (es : List X) {ks : List Int} (h0 : 0 < ks.length) (x n i : Nat) (hi : i < n) (more : List X) (hl : (es ++ colX ks x n ++ more).length ≤ 200) : chkV (es ++ colX ks x n ++ more) ((es.length + i : Nat) : Int) ks = (atI ks (((x / 2 + i) % ks.length : Nat) : Int), 0) := by
  have hl0 : (es ++ colX ks x n).length = es.length + n := by rw [List.length_append, colX_len]
  have hl1 : (es ++ colX ks x n).length ≤ 200 := by rw [List.length_append] at hl; omega
  refine chkV_more ?_ more hl
  rw [chkV_at hl1 (by omega), chs_colX es h0, getD_k _ _ _ _ i (by rw [chs_len])]
  simp [colK, List.getD, hi]
theorem typ_colX (es : List X) {ks : List Int} (h0 : 0 < ks.length) (x n : Nat) (more : List X) (hl : (es ++ colX ks x n ++ more).length ≤ 200) : typC (es ++ colX ks x n ++ more) (colR es.length n) ks = (colK ks x n, 0) := by
  unfold typC
  have hz : ∀ y ∈ colR es.length n, (chkV (es ++ colX ks x n ++ more) y ks).2 = 0 := fun y hy => by
    obtain ⟨i, hi, rfl⟩ := List.mem_map.1 hy
    rw [chkV_colX es h0 x n i (List.mem_range.1 hi) more hl]
  rw [mapE_ok _ _ hz]
  unfold colR colK
  rw [List.map_map]
  refine Prod.ext (List.map_congr_left fun i hi => ?_) rfl
  show (chkV (es ++ colX ks x n ++ more) ((es.length + i : Nat) : Int) ks).1 = _
  rw [chkV_colX es h0 x n i (List.mem_range.1 hi) more hl]
end Go.Proofs.YtbplapkcleipiaaGreatDoor
/- The laws' queries, node by node: what one number of five adds; it stays valid. -/
namespace Go.Proofs.YtbplapkcleipiaaGreatDoor

theorem grp_colX (es : List X) {ks : List Int} (h0 : 0 < ks.length) (x n c : Nat) (hc : c < ks.length) (g : Int) (hg : 2 ≤ g ∧ g ≤ 4) (hs : g = 2 → atI ks c = 1) (hl : es.length + n + 1 ≤ 200) :
    grpC (es ++ (colX ks x n ++ [⟨2, 0, 0, c, nul⟩])) (colR es.length n) [(1, 0), (g, ((es.length + n : Nat) : Int))] ks = (colK ks x n ++ [1, atI ks c], 0) := by
  rw [← List.append_assoc]
  have hlen : (es ++ colX ks x n ++ [(⟨2, 0, 0, c, nul⟩ : X)]).length ≤ 200 := by rw [List.length_append, List.length_append, colX_len]; exact hl
  have t := typ_colX es h0 x n [⟨2, 0, 0, c, nul⟩] hlen
  have v : chkV (es ++ colX ks x n ++ [⟨2, 0, 0, c, nul⟩]) ((es.length + n : Nat) : Int) ks = (atI ks c, 0) := by
    rw [chkV_at hlen (by rw [List.length_append, List.length_append, colX_len]; simp), chs_snoc, getD_last _ _ _ _ (by rw [chs_len, List.length_append, colX_len])]
    exact chO_col _ (ix_nat hc)
  generalize es ++ colX ks x n ++ [⟨2, 0, 0, (c : Int), nul⟩] = E at *
  have a1 : argC E ks (1, 0) = (0, 0) := rfl
  have a2 : argC E ks (g, ((es.length + n : Nat) : Int)) = (atI ks c, 0) := by
    unfold argC
    rw [if_neg (by simp only; omega), if_pos hg]; exact v
  have m1 : (mapE (argC E ks) [(1, 0), (g, ((es.length + n : Nat) : Int))]).2 = 0 := (mapE_iff _ _).2 fun y hy => by
    simp only [List.mem_cons, List.not_mem_nil, or_false] at hy
    rcases hy with rfl | rfl
    · rw [a1]
    · rw [a2]
  have b1 : badS E ks (g, ((es.length + n : Nat) : Int)) = false := by
    unfold badS
    rw [a2]
    by_cases h : g = 2
    · rw [hs h]; simp [accB]
    · simp [h]
  have b2 : badS E ks (1, 0) = false := rfl
  have e1 : ((colR es.length n).map fun y => (chkV E y ks).1) = colK ks x n := by
    have h2 : (typC E (colR es.length n) ks).2 = 0 := by rw [t]
    have h3 := mapE_ok (fun y => chkV E y ks) (colR es.length n) ((mapE_iff _ _).1 h2)
    have h4 : ((colR es.length n).map fun y => (chkV E y ks).1, (0 : Int)) = (colK ks x n, 0) := by rw [← h3]; exact t
    exact congrArg Prod.fst h4
  have tg : tyA g (atI ks c) = atI ks c := by
    unfold tyA
    by_cases h : g = 2
    · rw [if_pos (Or.inr h), hs h]
    · rw [if_neg (by omega)]
  have b3 : ([(1, 0), (g, ((es.length + n : Nat) : Int))] : List (Int × Int)).any (badS E ks) = false := by
    simp only [List.any_cons, List.any_nil, b1, b2]; rfl
  unfold grpC
  rw [t, if_neg (by simp), if_neg (by rw [m1]; simp), if_neg (by rw [b3]; simp), e1]
  simp only [List.map_cons, List.map_nil, a1, a2, tg]
  rfl
/-- the operator -/
def kindQ (x0 : Nat) (A B : List Int) : Int := if ((x0 % 9 = 2 ∨ x0 % 9 = 3) ∧ 6 < (A ++ B).length) ∨ ((4 ≤ x0 % 9 ∧ x0 % 9 ≤ 6) ∧ A ≠ B) then 9 else ((2 + x0 % 9 : Nat) : Int)
/-- how many columns a grouping has -/
def grpN (x3 x4 : Nat) : Nat := if 0 < x4 % 3 then 1 + x3 % 2 else 0
def grpG (A : List Int) (x3 x4 : Nat) : Int := if atI A ((x4 % A.length : Nat) : Int) = 1 ∧ x4 % 2 = 0 then 2 else ((3 + x3 % 2 : Nat) : Int)
/-- what one number of five adds: expressions, the node, its columns -/
def stepQ (prd : Nat → List Int → Nat → Nat → Nat → Nat → List X) (m : Nat) (ks : List (List Int)) (x0 x1 x2 x3 x4 : Nat) : List X × Nd × List Int :=
  let a : Int := ((x1 % ks.length : Nat) : Int)
  let b : Int := ((x2 % ks.length : Nat) : Int)
  let A := atC ks a
  let B := atC ks b
  let k := kindQ x0 A B
  if k = 2 then (prd m A x3 x4 (x3 / 7) (x4 / 7), ⟨2, a, b, ((m + (prd m A x3 x4 (x3 / 7) (x4 / 7)).length - 1 : Nat) : Int), [], [], []⟩, A)
  else if k = 4 ∨ k = 5 then (prd m (A ++ B) x3 x4 (x3 / 7) (x4 / 7), ⟨k, a, b, ((m + (prd m (A ++ B) x3 x4 (x3 / 7) (x4 / 7)).length - 1 : Nat) : Int), [], [], []⟩, A ++ B)
  else if k = 3 then (colX A x3 (1 + x3 % 2), ⟨3, a, b, 0, [], colR m (1 + x3 % 2), []⟩, colK A x3 (1 + x3 % 2))
  else if k = 10 then (colX A x3 (grpN x3 x4) ++ [⟨2, 0, 0, ((x4 % A.length : Nat) : Int), nul⟩], ⟨10, a, b, 0, [], colR m (grpN x3 x4), [(1, 0), (grpG A x3 x4, ((m + grpN x3 x4 : Nat) : Int))]⟩, colK A x3 (grpN x3 x4) ++ [1, atI A ((x4 % A.length : Nat) : Int)])
  else ([], ⟨k, a, b, 0, [], [], []⟩, A)
/-- columns as the laws have them -/
def KsOk (A : List Int) : Prop := 0 < A.length ∧ A.length ≤ 6 ∧ ∀ k ∈ A, k = 1 ∨ k = 2
theorem ks_at {A : List Int} (h : KsOk A) {i : Nat} (hi : i < A.length) : atI A (i : Int) = 1 ∨ atI A (i : Int) = 2 := by
  have e : atI A (i : Int) = A[i] := by simp [atI, List.getD, hi]
  rw [e]; exact h.2.2 _ (List.getElem_mem hi)
theorem le64 {A : List Int} (h : KsOk A) : A.length ≤ 64 := Nat.le_trans h.2.1 (by decide)
/-- what is asked of the predicates -/
def PrdOk (prd : Nat → List Int → Nat → Nat → Nat → Nat → List X) : Prop := ∀ (es : List X) (A : List Int) (a0 a1 a2 a3 : Nat), (0 < A.length ∧ ∀ k ∈ A, k = 1 ∨ k = 2) → es.length + 4 ≤ 200 → (2 ≤ (prd es.length A a0 a1 a2 a3).length ∧ (prd es.length A a0 a1 a2 a3).length ≤ 4) ∧ prdC (es ++ prd es.length A a0 a1 a2 a3) ((es.length + (prd es.length A a0 a1 a2 a3).length - 1 : Nat) : Int) A = (A, 0)
theorem atC_mem {ks : List (List Int)} {i : Nat} (hi : i < ks.length) : atC ks (i : Int) ∈ ks := by
  have e : atC ks (i : Int) = ks[i] := by simp [atC, List.getD, hi]
  rw [e]; exact List.getElem_mem hi
theorem colK_ok {A : List Int} (h : KsOk A) (x n : Nat) : ∀ k ∈ colK A x n, k = 1 ∨ k = 2 := fun k hk => by
  obtain ⟨i, _, rfl⟩ := List.mem_map.1 hk
  exact ks_at h (Nat.mod_lt _ h.1)
theorem colK_len (A : List Int) (x n : Nat) : (colK A x n).length = n := by simp [colK]
theorem kindQ_of (x0 : Nat) (A B : List Int) : 2 ≤ kindQ x0 A B ∧ kindQ x0 A B ≤ 10 ∧ (kindQ x0 A B = 4 ∨ kindQ x0 A B = 5 → (A ++ B).length ≤ 6) ∧ (kindQ x0 A B = 6 ∨ kindQ x0 A B = 7 ∨ kindQ x0 A B = 8 → A = B) := by
  unfold kindQ
  split
  · exact ⟨by omega, by omega, fun h => by omega, fun h => by omega⟩
  · rename_i h
    refine ⟨by omega, by omega, fun k => ?_, fun k => ?_⟩
    · refine Nat.le_of_not_lt fun c => h (Or.inl ⟨by omega, c⟩)
    · refine Classical.byContradiction fun c => h (Or.inr ⟨by omega, c⟩)
theorem stepQ_ok {prd : Nat → List Int → Nat → Nat → Nat → Nat → List X} (hp : PrdOk prd) (ts : List Tt) (es : List X) {ks : List (List Int)} (h0 : 0 < ks.length) (hk : ∀ A ∈ ks, KsOk A) (x0 x1 x2 x3 x4 : Nat) (hl : es.length + 4 ≤ 200) :
    (stepQ prd es.length ks x0 x1 x2 x3 x4).1.length ≤ 4 ∧ KsOk (stepQ prd es.length ks x0 x1 x2 x3 x4).2.2 ∧ chkN (es ++ (stepQ prd es.length ks x0 x1 x2 x3 x4).1) ts (stepQ prd es.length ks x0 x1 x2 x3 x4).2.1 ks = ((stepQ prd es.length ks x0 x1 x2 x3 x4).2.2, 0) := by
  have ia : isIx ((x1 % ks.length : Nat) : Int) (ks.length : Int) = true := ix_nat (Nat.mod_lt _ h0)
  have ib : isIx ((x2 % ks.length : Nat) : Int) (ks.length : Int) = true := ix_nat (Nat.mod_lt _ h0)
  have kA := hk _ (atC_mem (Nat.mod_lt x1 h0))
  have kB := hk _ (atC_mem (Nat.mod_lt x2 h0))
  unfold stepQ
  simp only
  generalize hA : atC ks ((x1 % ks.length : Nat) : Int) = A at *
  generalize hB : atC ks ((x2 % ks.length : Nat) : Int) = B at *
  obtain ⟨q1, q2, q3, q4⟩ := kindQ_of x0 A B
  generalize kindQ x0 A B = k at *
  by_cases c1 : k = 2
  · rw [if_pos c1]
    obtain ⟨⟨p1, p2⟩, p3⟩ := hp es A x3 x4 (x3 / 7) (x4 / 7) ⟨kA.1, kA.2.2⟩ hl
    refine ⟨p2, kA, chk_one rfl ia ?_ kA.1 (le64 kA)⟩
    show prdC _ _ (atC ks _) = _
    rw [hA]; exact p3
  rw [if_neg c1]
  by_cases c2 : k = 4 ∨ k = 5
  · rw [if_pos c2]
    have hj := q3 c2
    have kJ : KsOk (A ++ B) := ⟨by rw [List.length_append]; have := kA.1; omega, hj, fun z hz => (List.mem_append.1 hz).elim (kA.2.2 z) (kB.2.2 z)⟩
    obtain ⟨⟨p1, p2⟩, p3⟩ := hp es (A ++ B) x3 x4 (x3 / 7) (x4 / 7) ⟨kJ.1, kJ.2.2⟩ hl
    refine ⟨p2, kJ, chk_bi (by rcases c2 with rfl | rfl <;> rfl) ia ib ?_ kJ.1 (le64 kJ)⟩
    have e : ∀ p, colO (es ++ prd es.length (A ++ B) x3 x4 (x3 / 7) (x4 / 7)) ts ⟨k, ((x1 % ks.length : Nat) : Int), ((x2 % ks.length : Nat) : Int), p, [], [], []⟩ ks = prdC (es ++ prd es.length (A ++ B) x3 x4 (x3 / 7) (x4 / 7)) p (A ++ B) := fun p => by
      rw [← hA, ← hB]
      rcases c2 with rfl | rfl <;> rfl
    rw [e]; exact p3
  rw [if_neg c2]
  by_cases c3 : k = 3
  · rw [if_pos c3]
    have kK : KsOk (colK A x3 (1 + x3 % 2)) := ⟨by rw [colK_len]; omega, by rw [colK_len]; omega, colK_ok kA _ _⟩
    refine ⟨by rw [colX_len]; omega, kK, chk_one rfl ia ?_ kK.1 (le64 kK)⟩
    show typC _ _ (atC ks _) = _
    rw [hA]
    have := typ_colX es kA.1 x3 (1 + x3 % 2) [] (by rw [List.append_nil, List.length_append, colX_len]; omega)
    rw [List.append_nil] at this; exact this
  rw [if_neg c3]
  by_cases c4 : k = 10
  · rw [if_pos c4]
    have hn : grpN x3 x4 ≤ 2 := by unfold grpN; split <;> omega
    have hc := Nat.mod_lt x4 kA.1
    have hout : KsOk (colK A x3 (grpN x3 x4) ++ [1, atI A ((x4 % A.length : Nat) : Int)]) := by
      refine ⟨by simp, by rw [List.length_append, colK_len]; simp; omega, fun z hz => ?_⟩
      rcases List.mem_append.1 hz with hz | hz
      · exact colK_ok kA _ _ z hz
      · simp only [List.mem_cons, List.not_mem_nil, or_false] at hz
        rcases hz with rfl | rfl
        · exact Or.inl rfl
        · exact ks_at kA hc
    refine ⟨by rw [List.length_append, colX_len]; simp; omega, hout, chk_one rfl ia ?_ hout.1 (le64 hout)⟩
    show grpC _ _ _ (atC ks _) = _
    rw [hA]
    refine grp_colX es kA.1 x3 (grpN x3 x4) (x4 % A.length) hc (grpG A x3 x4) ?_ ?_ (by omega)
    · unfold grpG; split <;> omega
    · unfold grpG
      intro h
      split at h
      · rename_i d; exact d.1
      · omega
  rw [if_neg c4]
  refine ⟨Nat.zero_le _, kA, ?_⟩
  rw [List.append_nil]
  by_cases c5 : k = 9
  · subst c5
    refine chk_one rfl ia ?_ kA.1 (le64 kA)
    show (atC ks _, _) = _
    rw [hA]
  · have c6 : k = 6 ∨ k = 7 ∨ k = 8 := by omega
    have hAB := q4 c6
    refine chk_bi (by rcases c6 with rfl | rfl | rfl <;> rfl) ia ib ?_ kA.1 (le64 kA)
    have e : colO es ts ⟨k, ((x1 % ks.length : Nat) : Int), ((x2 % ks.length : Nat) : Int), 0, [], [], []⟩ ks = cmnC A B := by
      rw [← hA, ← hB]
      rcases c6 with rfl | rfl | rfl <;> rfl
    rw [e, ← hAB, cmnC_self]
end Go.Proofs.YtbplapkcleipiaaGreatDoor
