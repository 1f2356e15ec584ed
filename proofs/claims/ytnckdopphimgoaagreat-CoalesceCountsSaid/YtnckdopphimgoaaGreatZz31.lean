/- Tuples without their lineages, «as» they lie. -/
import Derived.Test.YtnckdopphimgoaaGreatZz04
import Derived.Test.YtnckdopphimgoaaGreatZz07
import Derived.Test.YtnckdopphimgoaaGreatZz08
import Derived.Test.YtnckdopphimgoaaGreatZz09
import Derived.Test.YtnckdopphimgoaaGreatZz17
import Derived.Test.YtnckdopphimgoaaGreatZz20
import Derived.Test.YtnckdopphimgoaaGreatZz23
import Derived.Test.YtnckdopphimgoaaGreatZz30
namespace Go.Proofs.YtnckdopphimgoaaGreat
open Go.ChangeShapes Go.WideShapes Go.ChangeAt Go.RowKit

/-- a tuple without its lineage: the values stay where they lie -/
def bareT (p : TP) : TP := ⟨⟨p.h.a, p.h.n, p.h.c, none, 0, 0⟩, stp p.r, p.a, p.b⟩
theorem tus_bare (ps : List TP) : tus (ps.map bareT) = nls (tus ps) := by
  unfold tus nls
  rw [List.map_map, List.map_map]
  rfl
theorem RdT.bare {w : World} {p : TP} (h : RdT w p) : RdT w (bareT p) := ⟨h.1, rdG_nil _⟩
theorem RdTs.bare {w : World} {ps : List TP} (h : RdTs w ps) : RdTs w (ps.map bareT) := fun p hp => by
  obtain ⟨q, hq, rfl⟩ := List.mem_map.1 hp
  exact (h q hq).bare
theorem SmT.bare {ps : List TP} (h : SmT ps) : SmT (ps.map bareT) := fun p hp => by
  obtain ⟨q, hq, rfl⟩ := List.mem_map.1 hp
  have := h q hq
  exact ⟨this.1, Nat.zero_le _⟩
def CoR (W : World) (l : List TP) (vn i : Value) (wr : World) : Prop := ∃ k : Nat, k ≤ l.length ∧ i = .int .i64 k ∧ OwnG tT.e W wr vn (l.take k)
/-- what Coalesce gives -/
def CoP (ps : List TP) (w : World) (e : Ending) (w' : World) : Prop := ∃ v' qs, e = .returned v' ∧ RdG w' v' qs ∧ RdTs w' qs ∧ IsCo (tus ps) (tus qs) ∧ qs.length ≤ ps.length ∧ SmT qs ∧ Ext w w'
def CoQ (ps : List TP) (w : World) (e : Ending) (w' : World) : Prop := ∃ v' qs, e = .returned v' ∧ RdG w' v' qs ∧ RdTs w' qs ∧ IsCo (tus ps) (tus qs) ∧ Ext w w'
end Go.Proofs.YtnckdopphimgoaaGreat
/- Coalesce, by the program. -/
namespace Go.Proofs.YtnckdopphimgoaaGreat
open Go.ChangeShapes Go.WideShapes Go.ChangeAt Go.RowKit

set_option maxHeartbeats 8000000 in
set_option maxRecDepth 100000 in
theorem co_prg (ps : List TP) (v : Value) (w : World) (h : RdG w v ps) (hI : RdTs w ps) (hl : ps.length ≤ 100000) (hs : SmT ps) : Calls Tryz.prog 9 #[v] w (CoP ps w) := by
  obtain ⟨ad, cap, rfl, h1, h2⟩ := h.shape
  have H := Lib.hid h
  have HI := Lib.hid hI
  have HS := Lib.hid hs
  clear h hI hs
  unfold maxLen at h2
  obtain ⟨n, hn⟩ : ∃ n, n = ps.length := ⟨_, rfl⟩
  have HN := Lib.hid hn
  rw [← hn] at H h1 hl ⊢
  clear hn
  go_enter Tryz.func9, Tryz.ntmps9
  go_wp2_with fail
  go_loopw [3, 8] (CoR w (ps.map bareT)) (fun _ i _ => n - (intOf i).toNat)
  case atStart => exact ⟨0, Nat.zero_le _, rfl, by simpa using OwnG.nil _ _ _ (Ext.refl w)⟩
  case round =>
    obtain ⟨k, hk, rfl, hO⟩ := hrel
    rw [List.length_map] at hk
    have hkn : k ≤ n := by rw [HN.out]; exact hk
    by_cases hlt : k < n
    · have hlt' : k < ps.length := by rw [← HN.out]; exact hlt
      obtain ⟨g, o, rfl, c0', c1', c2', c3'⟩ := rd_T H.out k hlt'
      have c0 := hO.2.keeps c0'
      have c1 := hO.2.keeps c1'
      have c2 := hO.2.keeps c2'
      have c3 := hO.2.keeps c3'
      have hi0 : (0 : Int) ≤ (k : Int) := by omega
      have hi1 : (k : Int) < (n : Int) := by omega
      have HE := Lib.hid (List.take_succ_eq_append_getElem (l := ps.map bareT) (i := k) (by rw [List.length_map]; exact hlt'))
      rw [List.getElem_map] at HE
      have hln : ((ps.map bareT).take k).length ≤ 100000 := by rw [List.length_take, List.length_map]; omega
      clear c0' c1' c2' c3'
      generalize ps[k] = x at *
      obtain ⟨⟨xa, xn, xc, xb, xm, xd⟩, xr, pa, pb⟩ := x
      simp only [Hd.x, Hd.y] at c0 c1 c2 c3
      have HO := Lib.hid hO
      have HQN := Lib.hid hln
      generalize hqs : (ps.map bareT).take k = qs at *
      have HQS := Lib.hid hqs
      clear hO hln hqs
      go_wp2_with (at_builtin; refine appG tT rfl _ _ rfl w _ qs rfl ?a1 _ [(⟨⟨xa, xn, xc, none, 0, 0⟩, stp xr, pa, pb⟩ : TP)] rfl ?a2 ?a3 ?_; (case a1 => exact HO.out.ext (((Ext.refl wr).alloc _ _).alloc _ _)); (case a2 => exact rd_litG _ [(⟨⟨xa, xn, xc, none, 0, 0⟩, stp xr, pa, pb⟩ : TP)] #[Value.slice xa xn xc, .int .i64 pa, .int .i64 pb, Value.slice none 0 0] 42 _ 1 (alsz _ _).symm rfl (by simp) rfl); (case a3 => have := HQN.out; simp; omega); intro v5 w5 hO5 hg5)
      go_roundw
      case rel => exact ⟨k + 1, by rw [List.length_map]; exact hlt', by go_num, by rw [HE.out]; exact hO5⟩
      case measure => first | (simp [intOf]; done) | (simp [intOf]; omega)
    · have hke : k = n := by omega
      have hall : (ps.map bareT).take k = ps.map bareT := by rw [List.take_of_length_le]; rw [List.length_map, ← HN.out, hke]; exact Nat.le_refl _
      rw [hall] at hO
      have HO := Lib.hid hO
      clear hO hall
      go_wp2_with fail
      refine (norm_prg (ps.map bareT) _ wr HO.out.rd (HI.out.bare.ext HO.out.2) (by rw [List.length_map, ← HN.out]; exact hl) HS.out.bare).mono ?_
      rintro e w3 ⟨v3, qs, rfl, r1, r2, r3, r4, r5⟩
      go_wp2_with fail
      go_ret
      rw [tus_bare] at r3
      refine ⟨_, qs, rfl, r1, r2, r3, by rw [List.length_map] at r4; exact r4, HS.out.bare.nf (by rw [tus_bare]; exact r3), HO.out.2.trans r5⟩
end Go.Proofs.YtnckdopphimgoaaGreat
/- IsCoalesced, by the program. -/
namespace Go.Proofs.YtnckdopphimgoaaGreat
open Go.ChangeShapes Go.WideShapes Go.ChangeAt Go.RowKit

/-- what IsCoalesced gives -/
def IcP (l : List Tu) (w : World) (e : Ending) (w' : World) : Prop := ∃ b : Bool, e = .returned (.bool b) ∧ (∀ N, IsCo l N → b = tuB l N) ∧ Ext w w'
set_option maxHeartbeats 4000000 in
theorem isco_prg (ps : List TP) (v : Value) (w : World) (h : RdG w v ps) (hI : RdTs w ps) (hl : ps.length ≤ 100000) (hs : SmT ps) : Calls Tryz.prog 10 #[v] w (IcP (tus ps) w) := by
  have H := Lib.hid h
  have HI := Lib.hid hI
  have HL := Lib.hid hl
  have HS := Lib.hid hs
  clear h hI hl hs
  go_enter Tryz.func10, Tryz.ntmps10
  go_wp2_with fail
  refine (co_prg ps v w H.out HI.out HL.out HS.out).mono ?_; rintro e w1 ⟨v1, qs, rfl, r1, r2, r3, _, _, r5⟩
  have HR1 := Lib.hid r1
  have HR2 := Lib.hid r2
  have HR3 := Lib.hid r3
  have HE := Lib.hid r5
  clear r1 r2 r3 r5
  go_wp2_with fail
  refine (eqf_co ps qs v v1 w1 (H.out.ext HE.out) HR1.out (HI.out.ext HE.out) HR2.out).mono ?_; rintro e w2 ⟨rfl, hE2⟩
  go_wp2_with fail
  go_ret
  exact ⟨_, rfl, fun N hN => by rw [IsNf.unique hN HR3.out], HE.out.trans hE2⟩
end Go.Proofs.YtnckdopphimgoaaGreat
/- The laws' IntValue. -/
namespace Go.Proofs.YtnckdopphimgoaaGreat
open Go.ChangeShapes Go.WideShapes Go.ChangeAt Go.RowKit

set_option maxHeartbeats 1000000 in
theorem int_val (z : Int) (w : World) : Calls Tryz.prog 39 #[.int .i64 z] w fun e w' => e = .returned (vv ⟨1, z, []⟩) ∧ Ext w w' := by
  go_enter Tryz.func39, Tryz.ntmps39
  go_wp2_with fail
  exact bodyPost_ret (v := vv ⟨1, z, []⟩) (by simp [results, Tryz.results39, go_sem, vv]) rfl ⟨rfl, by repeat (first | exact Ext.refl _ | refine Ext.alloc ?_ _ _ | refine Ext.setNew ?_ _ _ (by simp; try omega) _)⟩
end Go.Proofs.YtnckdopphimgoaaGreat
/- The laws' builders of values, periods and rows of two values. -/
namespace Go.Proofs.YtnckdopphimgoaaGreat
open Go.ChangeShapes Go.WideShapes Go.ChangeAt Go.RowKit

/-- some value -/
def SmV (v : V) : Prop := (0 ≤ v.k ∧ v.k ≤ 2) ∧ (-1 ≤ v.n ∧ v.n ≤ 1) ∧ v.s.length ≤ 2
def BvP (w : World) (e : Ending) (w' : World) : Prop := ∃ v, e = .returned (vv v) ∧ SmV v ∧ Ext w w'
theorem wrapU (m : Int) (h0 : 0 ≤ m) (h1 : m ≤ 65535) : IntKind.u16.wrap m = m := by simp only [IntKind.wrap, IntKind.bits, IntKind.signed]; simp; omega
theorem wrapI (m : Int) (h0 : -9223372036854775808 ≤ m) (h1 : m ≤ 9223372036854775807) : IntKind.i64.wrap m = m := by simp only [IntKind.wrap, IntKind.bits, IntKind.signed]; simp; omega
set_option maxHeartbeats 4000000 in
theorem value0 (x : Int) (h0 : 0 ≤ x) (_h1 : x ≤ 65535) (w : World) : Calls Tryz.prog 26 #[.int .i64 0, .int .u16 x] w (BvP w) := by
  obtain ⟨m, hm⟩ : ∃ m, m = x % 7 := ⟨_, rfl⟩
  obtain ⟨q, hq⟩ : ∃ q, q = x % 3 := ⟨_, rfl⟩
  have hm1 : Int.tmod x 7 = m := by rw [Int.tmod_eq_emod_of_nonneg h0]; exact hm.symm
  have hq1 : Int.tmod x 3 = q := by rw [Int.tmod_eq_emod_of_nonneg h0]; exact hq.symm
  have hm2 := hm.symm
  have hq2 := hq.symm
  have hmb : 0 ≤ m ∧ m ≤ 6 := by omega
  have hqb : 0 ≤ q ∧ q ≤ 2 := by omega
  have hwm := wrapU m (by omega) (by omega)
  have hwq := wrapU q (by omega) (by omega)
  have hwi := wrapI q (by omega) (by omega)
  clear hm hq
  by_cases h6 : m = 6
  · subst h6
    go_enter Tryz.func26, Tryz.ntmps26
    go_wp2_with fail
    exact bodyPost_ret (v := vv ⟨0, 0, []⟩) (by simp [results, Tryz.results26, go_sem, vv]) rfl ⟨_, rfl, by (refine ⟨⟨?_, ?_⟩, ⟨?_, ?_⟩, ?_⟩ <;> simp <;> omega), by repeat (first | exact Ext.refl _ | refine Ext.alloc ?_ _ _ | refine Ext.setNew ?_ _ _ (by simp; try omega) _)⟩
  · have h6' : (m == 6) = false := by simpa using h6
    go_enter Tryz.func26, Tryz.ntmps26
    go_wp2_with fail
    refine (int_val (q - 1) _).mono ?_; rintro e w1 ⟨rfl, hE⟩
    have k0 := hE.keeps (al_c w #[.int .i64 0, .int .i64 0, .string { data := #[] }] 54 0 _ rfl)
    have k1 := hE.keeps (al_c w #[.int .i64 0, .int .i64 0, .string { data := #[] }] 54 1 _ rfl)
    have k2 := hE.keeps (al_c w #[.int .i64 0, .int .i64 0, .string { data := #[] }] 54 2 _ rfl)
    have kf : ∀ j, w1.frozen? ⟨w.heap.size, j, none⟩ = false := fun j => (hE.2.1 ⟨w.heap.size, j, none⟩ (by simp)).trans (by simp [World.frozen?_alloc_at])
    have kf0 := kf 0
    have kf1 := kf 1
    have kf2 := kf 2
    have hsz : w.heap.size < w1.heap.size := World.block_lt_of_cell? _ _ k0
    have hE9 : Ext w w1 := ((Ext.refl _).alloc _ _).trans hE
    clear hE kf
    go_wp2_with fail
    exact bodyPost_ret (v := vv ⟨1, q - 1, []⟩) (by simp [results, Tryz.results26, go_sem, k0, k1, k2]) rfl ⟨_, rfl, by (refine ⟨⟨?_, ?_⟩, ⟨?_, ?_⟩, ?_⟩ <;> simp <;> omega), by repeat (first | exact hE9 | exact Ext.refl _ | refine Ext.alloc ?_ _ _ | refine Ext.setNew ?_ _ _ (by simp; try omega) _)⟩
set_option maxHeartbeats 4000000 in
theorem value1 (x : Int) (h0 : 0 ≤ x) (_h1 : x ≤ 65535) (w : World) : Calls Tryz.prog 26 #[.int .i64 1, .int .u16 x] w (BvP w) := by
  obtain ⟨m, hm⟩ : ∃ m, m = x % 7 := ⟨_, rfl⟩
  obtain ⟨q, hq⟩ : ∃ q, q = x % 3 := ⟨_, rfl⟩
  have hm1 : Int.tmod x 7 = m := by rw [Int.tmod_eq_emod_of_nonneg h0]; exact hm.symm
  have hq1 : Int.tmod x 3 = q := by rw [Int.tmod_eq_emod_of_nonneg h0]; exact hq.symm
  have hm2 := hm.symm
  have hq2 := hq.symm
  have hmb : 0 ≤ m ∧ m ≤ 6 := by omega
  have hqb : 0 ≤ q ∧ q ≤ 2 := by omega
  have hwm := wrapU m (by omega) (by omega)
  have hwq := wrapU q (by omega) (by omega)
  have hwi := wrapI q (by omega) (by omega)
  clear hm hq
  by_cases h6 : m = 6
  · subst h6
    go_enter Tryz.func26, Tryz.ntmps26
    go_wp2_with fail
    exact bodyPost_ret (v := vv ⟨0, 0, []⟩) (by simp [results, Tryz.results26, go_sem, vv]) rfl ⟨_, rfl, by (refine ⟨⟨?_, ?_⟩, ⟨?_, ?_⟩, ?_⟩ <;> simp <;> omega), by repeat (first | exact Ext.refl _ | refine Ext.alloc ?_ _ _ | refine Ext.setNew ?_ _ _ (by simp; try omega) _)⟩
  · have h6' : (m == 6) = false := by simpa using h6
    rcases (show q = 0 ∨ q = 1 ∨ q = 2 by omega) with rfl | rfl | rfl
    · go_enter Tryz.func26, Tryz.ntmps26
      go_wp2_with fail
      exact bodyPost_ret (v := vv ⟨2, 0, []⟩) (by simp [results, Tryz.results26, go_sem, vv]) rfl ⟨_, rfl, by (refine ⟨⟨?_, ?_⟩, ⟨?_, ?_⟩, ?_⟩ <;> simp <;> omega), by repeat (first | exact Ext.refl _ | refine Ext.alloc ?_ _ _ | refine Ext.setNew ?_ _ _ (by simp; try omega) _)⟩
    · go_enter Tryz.func26, Tryz.ntmps26
      go_wp2_with fail
      exact bodyPost_ret (v := vv ⟨2, 0, [97]⟩) (by simp [results, Tryz.results26, go_sem, vv]) rfl ⟨_, rfl, by (refine ⟨⟨?_, ?_⟩, ⟨?_, ?_⟩, ?_⟩ <;> simp <;> omega), by repeat (first | exact Ext.refl _ | refine Ext.alloc ?_ _ _ | refine Ext.setNew ?_ _ _ (by simp; try omega) _)⟩
    · go_enter Tryz.func26, Tryz.ntmps26
      go_wp2_with fail
      exact bodyPost_ret (v := vv ⟨2, 0, [98, 39]⟩) (by simp [results, Tryz.results26, go_sem, vv]) rfl ⟨_, rfl, by (refine ⟨⟨?_, ?_⟩, ⟨?_, ?_⟩, ?_⟩ <;> simp <;> omega), by repeat (first | exact Ext.refl _ | refine Ext.alloc ?_ _ _ | refine Ext.setNew ?_ _ _ (by simp; try omega) _)⟩
/-- some values of the call's own -/
def BwP (w : World) (e : Ending) (w' : World) : Prop := ∃ (v : Value) (l : List V), e = .returned v ∧ OwnG tV.e w w' v l ∧ l.length = 2 ∧ ∀ v ∈ l, SmV v
set_option maxHeartbeats 4000000 in
theorem vals_law (x y : Int) (hx0 : 0 ≤ x) (hx1 : x ≤ 65535) (hy0 : 0 ≤ y) (hy1 : y ≤ 65535) (w : World) : Calls Tryz.prog 14 #[.int .u16 x, .int .u16 y] w (BwP w) := by
  have H0 := Lib.hid (fun w => value0 x hx0 hx1 w)
  have H1 := Lib.hid (fun w => value1 y hy0 hy1 w)
  go_enter Tryz.func14, Tryz.ntmps14
  go_wp2_with fail
  refine (H0.out _).mono ?_; rintro e w1 ⟨⟨ak, an, az⟩, rfl, sm1, hE⟩
  go_wp2_with fail
  refine (H1.out _).mono ?_; rintro e w2 ⟨⟨bk, bn, bz⟩, rfl, sm2, hE2⟩
  have hE3 := hE.trans hE2
  have SM1 := Lib.hid sm1
  have SM2 := Lib.hid sm2
  clear sm1 sm2
  go_wp2_with fail
  go_ret
  exact ⟨_, [⟨ak, an, az⟩, ⟨bk, bn, bz⟩], rfl, own_litB _ hE3 _ _ _ _ rfl rfl (by simp) rfl, rfl, fun v hv => by simp only [List.mem_cons, List.not_mem_nil, or_false] at hv; rcases hv with rfl | rfl; exact SM1.out; exact SM2.out⟩
/-- some period -/
def BpP (w : World) (e : Ending) (w' : World) : Prop := ∃ a b, e = .returned (pv a b) ∧ Ext w w'
end Go.Proofs.YtnckdopphimgoaaGreat
/- The laws' values, exactly; the laws' constants. -/
namespace Go.Proofs.YtnckdopphimgoaaGreat
open Go.ChangeShapes Go.WideShapes Go.ChangeAt Go.RowKit

def txtW (q : Int) : List UInt8 := if q = 0 then [] else if q = 1 then [97] else [98, 39]
/-- law0's Value -/
def valW (col x : Int) : V := if x % 7 = 6 then nul else if col = 0 then ⟨1, x % 3 - 1, []⟩ else ⟨2, 0, txtW (x % 3)⟩
set_option maxHeartbeats 4000000 in
theorem valx0 (x : Int) (h0 : 0 ≤ x) (_h1 : x ≤ 65535) (w : World) : Calls Tryz.prog 26 #[.int .i64 0, .int .u16 x] w (fun e w' => e = .returned (vv (valW 0 x)) ∧ Ext w w') := by
  obtain ⟨m, hm⟩ : ∃ m, m = x % 7 := ⟨_, rfl⟩
  obtain ⟨q, hq⟩ : ∃ q, q = x % 3 := ⟨_, rfl⟩
  have hm1 : Int.tmod x 7 = m := by rw [Int.tmod_eq_emod_of_nonneg h0]; exact hm.symm
  have hq1 : Int.tmod x 3 = q := by rw [Int.tmod_eq_emod_of_nonneg h0]; exact hq.symm
  have hm2 := hm.symm
  have hq2 := hq.symm
  have hmb : 0 ≤ m ∧ m ≤ 6 := by omega
  have hqb : 0 ≤ q ∧ q ≤ 2 := by omega
  have hwm := wrapU m (by omega) (by omega)
  have hwq := wrapU q (by omega) (by omega)
  have hwi := wrapI q (by omega) (by omega)
  clear hm hq
  by_cases h6 : m = 6
  · subst h6
    have HVW := Lib.hid (show valW 0 x = ⟨0, 0, []⟩ by unfold valW; rw [if_pos hm2]; rfl)
    go_enter Tryz.func26, Tryz.ntmps26
    go_wp2_with fail
    exact bodyPost_ret (v := vv ⟨0, 0, []⟩) (by simp [results, Tryz.results26, go_sem, vv]) rfl ⟨by rw [HVW.out], by repeat (first | exact Ext.refl _ | refine Ext.alloc ?_ _ _ | refine Ext.setNew ?_ _ _ (by simp; try omega) _)⟩
  · have HVW := Lib.hid (show valW 0 x = ⟨1, q - 1, []⟩ by unfold valW; rw [if_neg (by rw [hm2]; exact h6), if_pos rfl, hq2])
    have h6' : (m == 6) = false := by simpa using h6
    go_enter Tryz.func26, Tryz.ntmps26
    go_wp2_with fail
    refine (int_val (q - 1) _).mono ?_; rintro e w1 ⟨rfl, hE⟩
    have k0 := hE.keeps (al_c w #[.int .i64 0, .int .i64 0, .string { data := #[] }] 54 0 _ rfl)
    have k1 := hE.keeps (al_c w #[.int .i64 0, .int .i64 0, .string { data := #[] }] 54 1 _ rfl)
    have k2 := hE.keeps (al_c w #[.int .i64 0, .int .i64 0, .string { data := #[] }] 54 2 _ rfl)
    have kf : ∀ j, w1.frozen? ⟨w.heap.size, j, none⟩ = false := fun j => (hE.2.1 ⟨w.heap.size, j, none⟩ (by simp)).trans (by simp [World.frozen?_alloc_at])
    have kf0 := kf 0
    have kf1 := kf 1
    have kf2 := kf 2
    have hsz : w.heap.size < w1.heap.size := World.block_lt_of_cell? _ _ k0
    have hE9 : Ext w w1 := ((Ext.refl _).alloc _ _).trans hE
    clear hE kf
    go_wp2_with fail
    exact bodyPost_ret (v := vv ⟨1, q - 1, []⟩) (by simp [results, Tryz.results26, go_sem, k0, k1, k2]) rfl ⟨by rw [HVW.out], by repeat (first | exact hE9 | exact Ext.refl _ | refine Ext.alloc ?_ _ _ | refine Ext.setNew ?_ _ _ (by simp; try omega) _)⟩
set_option maxHeartbeats 4000000 in
theorem valx1 (x : Int) (h0 : 0 ≤ x) (_h1 : x ≤ 65535) (w : World) : Calls Tryz.prog 26 #[.int .i64 1, .int .u16 x] w (fun e w' => e = .returned (vv (valW 1 x)) ∧ Ext w w') := by
  obtain ⟨m, hm⟩ : ∃ m, m = x % 7 := ⟨_, rfl⟩
  obtain ⟨q, hq⟩ : ∃ q, q = x % 3 := ⟨_, rfl⟩
  have hm1 : Int.tmod x 7 = m := by rw [Int.tmod_eq_emod_of_nonneg h0]; exact hm.symm
  have hq1 : Int.tmod x 3 = q := by rw [Int.tmod_eq_emod_of_nonneg h0]; exact hq.symm
  have hm2 := hm.symm
  have hq2 := hq.symm
  have hmb : 0 ≤ m ∧ m ≤ 6 := by omega
  have hqb : 0 ≤ q ∧ q ≤ 2 := by omega
  have hwm := wrapU m (by omega) (by omega)
  have hwq := wrapU q (by omega) (by omega)
  have hwi := wrapI q (by omega) (by omega)
  clear hm hq
  by_cases h6 : m = 6
  · subst h6
    have HVW := Lib.hid (show valW 1 x = ⟨0, 0, []⟩ by unfold valW; rw [if_pos hm2]; rfl)
    go_enter Tryz.func26, Tryz.ntmps26
    go_wp2_with fail
    exact bodyPost_ret (v := vv ⟨0, 0, []⟩) (by simp [results, Tryz.results26, go_sem, vv]) rfl ⟨by rw [HVW.out], by repeat (first | exact Ext.refl _ | refine Ext.alloc ?_ _ _ | refine Ext.setNew ?_ _ _ (by simp; try omega) _)⟩
  · have hvw : valW 1 x = ⟨2, 0, txtW q⟩ := by unfold valW; rw [if_neg (by rw [hm2]; exact h6), if_neg (by decide), hq2]
    have h6' : (m == 6) = false := by simpa using h6
    rcases (show q = 0 ∨ q = 1 ∨ q = 2 by omega) with rfl | rfl | rfl
    · have HVW := Lib.hid (show valW 1 x = ⟨2, 0, []⟩ from hvw)
      clear hvw
      go_enter Tryz.func26, Tryz.ntmps26
      go_wp2_with fail
      exact bodyPost_ret (v := vv ⟨2, 0, []⟩) (by simp [results, Tryz.results26, go_sem, vv]) rfl ⟨by rw [HVW.out], by repeat (first | exact Ext.refl _ | refine Ext.alloc ?_ _ _ | refine Ext.setNew ?_ _ _ (by simp; try omega) _)⟩
    · have HVW := Lib.hid (show valW 1 x = ⟨2, 0, [97]⟩ from hvw)
      clear hvw
      go_enter Tryz.func26, Tryz.ntmps26
      go_wp2_with fail
      exact bodyPost_ret (v := vv ⟨2, 0, [97]⟩) (by simp [results, Tryz.results26, go_sem, vv]) rfl ⟨by rw [HVW.out], by repeat (first | exact Ext.refl _ | refine Ext.alloc ?_ _ _ | refine Ext.setNew ?_ _ _ (by simp; try omega) _)⟩
    · have HVW := Lib.hid (show valW 1 x = ⟨2, 0, [98, 39]⟩ from hvw)
      clear hvw
      go_enter Tryz.func26, Tryz.ntmps26
      go_wp2_with fail
      exact bodyPost_ret (v := vv ⟨2, 0, [98, 39]⟩) (by simp [results, Tryz.results26, go_sem, vv]) rfl ⟨by rw [HVW.out], by repeat (first | exact Ext.refl _ | refine Ext.alloc ?_ _ _ | refine Ext.setNew ?_ _ _ (by simp; try omega) _)⟩
end Go.Proofs.YtnckdopphimgoaaGreat
/- law0's Vals. -/
namespace Go.Proofs.YtnckdopphimgoaaGreat
open Go.ChangeShapes Go.WideShapes Go.ChangeAt Go.RowKit

def valsL (x y : Int) : List V := [valW 0 x, valW 1 y]
set_option maxHeartbeats 2000000 in
theorem valsx (x y : Int) (hx0 : 0 ≤ x) (hx1 : x ≤ 65535) (hy0 : 0 ≤ y) (hy1 : y ≤ 65535) (w : World) : Calls Tryz.prog 14 #[.int .u16 x, .int .u16 y] w fun e w' => ∃ v, e = .returned v ∧ OwnG tV.e w w' v (valsL x y) := by
  have H0 := Lib.hid (valx0 x hx0 hx1)
  have H1 := Lib.hid (valx1 y hy0 hy1)
  have HL := Lib.hid (show valsL x y = [valW 0 x, valW 1 y] from rfl)
  generalize valW 0 x = a at *
  generalize valW 1 y = b at *
  obtain ⟨ak, an, az⟩ := a
  obtain ⟨bk, bn, bz⟩ := b
  clear hx0 hx1 hy0 hy1
  generalize valsL x y = l at *
  go_enter Tryz.func14, Tryz.ntmps14
  go_wp2_with fail
  refine (H0.out _).mono ?_; rintro e w1 ⟨rfl, hE⟩
  go_wp2_with fail
  refine (H1.out _).mono ?_; rintro e w2 ⟨rfl, hE2⟩
  have hE3 := hE.trans hE2
  go_wp2_with fail
  go_ret
  exact ⟨_, rfl, by rw [HL.out]; exact own_litB _ hE3 [(⟨ak, an, az⟩ : V), ⟨bk, bn, bz⟩] _ _ _ rfl rfl (by simp) rfl⟩
end Go.Proofs.YtnckdopphimgoaaGreat
/- slices.Compact hands back a row of the call's own. -/
namespace Go.Proofs.YtnckdopphimgoaaGreat
open Go.ChangeShapes Go.WideShapes Go.ChangeAt Go.RowKit

end Go.Proofs.YtnckdopphimgoaaGreat
