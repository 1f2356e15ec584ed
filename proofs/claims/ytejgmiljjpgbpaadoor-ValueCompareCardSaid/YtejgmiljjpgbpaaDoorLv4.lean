/- The law ValueCompare. (generated: tools/gencmp6.py) -/
import Derived.Test.YtejgmiljjpgbpaaDoorLv1
namespace Go.Proofs.YtejgmiljjpgbpaaDoor
open Go.ChangeShapes Go.WideShapes Go.ChangeAt Go.RowKit

set_option maxHeartbeats 8000000 in
set_option maxRecDepth 100000 in
theorem law_ValueCompare (a b : V) (w : World) (hG : GE w) (h0 : -9223372036854775808 ≤ a.n) (h1 : a.n ≤ 9223372036854775807) : Calls Tryd.prog 3 #[vv a, vv b] w fun e w' => e = .returned (.bool true) ∧ Ext w w' := by
  have R2 := Lib.hid (fun (W0 x : World) (h : Ext W0 x) => heldE W0 ((vld_val a x).mono fun _ _ ⟨e, g⟩ => ⟨e, ext_of_grown g⟩) h)
  have R3 := Lib.hid (fun (W0 x : World) (h : Ext W0 x) => heldE W0 ((vld_ref a x).mono fun _ _ ⟨e, g⟩ => ⟨e, ext_of_grown g⟩) h)
  have R4 := Lib.hid (fun (W0 x : World) (h : Ext W0 x) => heldE W0 ((cmp_val a b x).mono fun _ _ ⟨e, g⟩ => ⟨e, ext_of_grown g⟩) h)
  have R5 := Lib.hid (fun (W0 x : World) (h : Ext W0 x) => heldE W0 ((cmp_ref a b x).mono fun _ _ ⟨e, g⟩ => ⟨e, ext_of_grown g⟩) h)
  have R6 := Lib.hid (fun (W0 x : World) (hg : GE x) (h : Ext W0 x) => heldE W0 (fmt_val a x hg h0 h1) h)
  have R7 := Lib.hid (fun (W0 x : World) (h : Ext W0 x) => heldE W0 (fmt_ref a x h0 h1) h)
  have HG := Lib.hid hG
  clear hG
  generalize vldB a = bv at *
  generalize cmpV a b = cv at *
  generalize fmtV a = fv at *
  obtain ⟨ak, an, az⟩ := a
  obtain ⟨bk, bn, bz⟩ := b
  go_enter Tryd.func3, Tryd.ntmps3
  go_wp2_with fail
  have hA := (Box.new w ⟨ak, an, az⟩).alloc (.cells #[.int .i64 bk, .int .i64 bn, sv bz] 23)
  have hB := Box.new (w.alloc (.cells #[.int .i64 ak, .int .i64 an, sv az] 23)) ⟨bk, bn, bz⟩
  have hE0 := ((Ext.refl w).alloc #[.int .i64 ak, .int .i64 an, sv az] 23).alloc #[.int .i64 bk, .int .i64 bn, sv bz] 23
  have z1 : (w.alloc (.cells #[.int .i64 ak, .int .i64 an, sv az] 23)).heap.size = w.heap.size + 1 := by simp
  rw [z1] at hB
  clear z1
  generalize (w.alloc (.cells #[.int .i64 ak, .int .i64 an, sv az] 23)).alloc (.cells #[.int .i64 bk, .int .i64 bn, sv bz] 23) = W0 at *
  have A1 := Lib.hid (fun (x : World) (h : Ext W0 x) => heldE W0 (awake_law x (HG.out.ext (hE0.trans h))) h)
  have A2 := Lib.hid (fun (x : World) (h : Ext W0 x) => R2.out W0 x h)
  have A3 := Lib.hid (fun (x : World) (h : Ext W0 x) => R3.out W0 x h)
  have A4 := Lib.hid (fun (x : World) (h : Ext W0 x) => R4.out W0 x h)
  have A5 := Lib.hid (fun (x : World) (h : Ext W0 x) => R5.out W0 x h)
  have A6 := Lib.hid (fun (x : World) (h : Ext W0 x) => R6.out W0 x (HG.out.ext (hE0.trans h)) h)
  have A7 := Lib.hid (fun (x : World) (h : Ext W0 x) => R7.out W0 x h)
  have K00 := Lib.hid hA.c0
  have K01 := Lib.hid hA.c1
  have K02 := Lib.hid hA.c2
  have K10 := Lib.hid hB.c0
  have K11 := Lib.hid hB.c1
  have K12 := Lib.hid hB.c2
  have gK00 := K00.out
  have gK01 := K01.out
  have gK02 := K02.out
  have gK10 := K10.out
  have gK11 := K11.out
  have gK12 := K12.out
  go_region_held3 (fun w' => w'.cell? ⟨w.heap.size, 0, none⟩ = some (.int .i64 ak) ∧ w'.cell? ⟨w.heap.size, 1, none⟩ = some (.int .i64 an) ∧ w'.cell? ⟨w.heap.size, 2, none⟩ = some (sv az) ∧ w'.cell? ⟨w.heap.size + 1, 0, none⟩ = some (.int .i64 bk) ∧ w'.cell? ⟨w.heap.size + 1, 1, none⟩ = some (.int .i64 bn) ∧ w'.cell? ⟨w.heap.size + 1, 2, none⟩ = some (sv bz)) (first | exact ⟨K00.out, K01.out, K02.out, K10.out, K11.out, K12.out⟩ | go_keep)
    (first
      | (go_at_call 11; refine (A1.out _ ?_).mono ?_; (first | assumption | exact Ext.refl _ | exact (Ext.refl _).drew); rintro e w3 ⟨rfl, q0, qG⟩; have f0 := qG.keeps K00.out; have f1 := qG.keeps K01.out; have f2 := qG.keeps K02.out; have f3 := qG.keeps K10.out; have f4 := qG.keeps K11.out; have f5 := qG.keeps K12.out)
      | (go_at_call 12; refine (A2.out _ ?_).mono ?_; (first | assumption | exact Ext.refl _ | exact (Ext.refl _).drew); rintro e w3 ⟨rfl, q0, qG⟩; have f0 := qG.keeps K00.out; have f1 := qG.keeps K01.out; have f2 := qG.keeps K02.out; have f3 := qG.keeps K10.out; have f4 := qG.keeps K11.out; have f5 := qG.keeps K12.out)
      | (go_at_call 13; refine (A3.out _ ?_).mono ?_; (first | assumption | exact Ext.refl _ | exact (Ext.refl _).drew); rintro e w3 ⟨rfl, q0, qG⟩; have f0 := qG.keeps K00.out; have f1 := qG.keeps K01.out; have f2 := qG.keeps K02.out; have f3 := qG.keeps K10.out; have f4 := qG.keeps K11.out; have f5 := qG.keeps K12.out)
      | (go_at_call 14; refine (A4.out _ ?_).mono ?_; (first | assumption | exact Ext.refl _ | exact (Ext.refl _).drew); rintro e w3 ⟨rfl, q0, qG⟩; have f0 := qG.keeps K00.out; have f1 := qG.keeps K01.out; have f2 := qG.keeps K02.out; have f3 := qG.keeps K10.out; have f4 := qG.keeps K11.out; have f5 := qG.keeps K12.out)
      | (go_at_call 15; refine (A5.out _ ?_).mono ?_; (first | assumption | exact Ext.refl _ | exact (Ext.refl _).drew); rintro e w3 ⟨rfl, q0, qG⟩; have f0 := qG.keeps K00.out; have f1 := qG.keeps K01.out; have f2 := qG.keeps K02.out; have f3 := qG.keeps K10.out; have f4 := qG.keeps K11.out; have f5 := qG.keeps K12.out)
      | (go_at_call 16; refine (A6.out _ ?_).mono ?_; (first | assumption | exact Ext.refl _ | exact (Ext.refl _).drew); rintro e w3 ⟨rfl, q0, qG⟩; have f0 := qG.keeps K00.out; have f1 := qG.keeps K01.out; have f2 := qG.keeps K02.out; have f3 := qG.keeps K10.out; have f4 := qG.keeps K11.out; have f5 := qG.keeps K12.out)
      | (go_at_call 17; refine (A7.out _ ?_).mono ?_; (first | assumption | exact Ext.refl _ | exact (Ext.refl _).drew); rintro e w3 ⟨rfl, q0, qG⟩; have f0 := qG.keeps K00.out; have f1 := qG.keeps K01.out; have f2 := qG.keeps K02.out; have f3 := qG.keeps K10.out; have f4 := qG.keeps K11.out; have f5 := qG.keeps K12.out))
  go_wp2_with fail
  go_ret
  exact ⟨ret_bool (by simp), hE0.trans qG⟩
end Go.Proofs.YtejgmiljjpgbpaaDoor
