/- awake's queries, in plain lists. -/
import Derived.Test.YtbplapkcleipiaaGreatDoorZz03
import Derived.Test.YtbplapkcleipiaaGreatDoorZz04
import Derived.Test.YtbplapkcleipiaaGreatDoorZz06
import Derived.Test.YtbplapkcleipiaaGreatDoorZz07
import Derived.Test.YtbplapkcleipiaaGreatDoorZz09
import Derived.Test.YtbplapkcleipiaaGreatDoorZz42
namespace Go.Proofs.YtbplapkcleipiaaGreatDoor

def aq1 : List Nd := [⟨1, 0, 0, 0, [114], [], []⟩, ⟨10, 0, 0, 0, [], [], [(1, 0)]⟩]
def aq2 : List Nd := [⟨1, 0, 0, 0, [114], [], []⟩, ⟨1, 0, 0, 0, [115], [], []⟩, ⟨5, 0, 1, 0, [], [], []⟩]
def ax2 : List X := [⟨1, 0, 0, 0, ⟨3, 1, []⟩⟩]
theorem sort_one (r : R) : sortR [r] = [r] := sortR_self (List.pairwise_singleton _ _)
theorem linL_nil : linL [] = [] := by
  have h : ∀ c, ¬ c ∈ linL [] := fun c hc => by have := (linL_mem [] c).1 hc; cases this
  exact List.eq_nil_iff_forall_not_mem.2 h
theorem aw_c1 : colQ [] (dbs [] [] |>.map Tb.t) aq1 = ([[1, 2], [1]], 0) := by decide
theorem aw_c2 (a b : List R) : colQ ax2 (dbs a b |>.map Tb.t) aq2 = ([[1, 2], [1, 2], [1, 2, 1, 2]], 0) := by
  show colQ ax2 [⟨[114], [1, 2]⟩, ⟨[115], [1, 2]⟩] aq2 = _
  decide
theorem aw_c3 : chkQ ax2 [] aq2 = ([], 8) := by decide
theorem aw_e1 : evQ clsF [] (dbs [] []) aq1 = ([⟨[⟨1, 0, []⟩], []⟩], 0) := by
  unfold evQ
  rw [aw_c1]
  have e : evsQ clsF [] (dbs [] []) [[1, 2], [1]] aq1 [] = ([[], [⟨[⟨1, 0, []⟩], linR []⟩]], 0) := by rfl
  simp only [e]
  rw [show linR [] = [] from linL_nil]
  show (sortR [⟨[⟨1, 0, []⟩], []⟩], (0 : Int)) = _
  rw [sort_one]
theorem aw_e2 (x y : V) (t : List Int) : evQ clsF ax2 (dbs [⟨[x, y], t⟩] []) aq2 = ([⟨[x, y, nul, nul], t⟩], 0) := by
  unfold evQ
  rw [aw_c2]
  have e : evsQ clsF ax2 (dbs [⟨[x, y], t⟩] []) [[1, 2], [1, 2], [1, 2, 1, 2]] aq2 [] = ([[⟨[x, y], t⟩], [], [⟨[x, y, nul, nul], t⟩]], 0) := by rfl
  simp only [e]
  show (sortR [⟨[x, y, nul, nul], t⟩], (0 : Int)) = _
  rw [sort_one]
end Go.Proofs.YtbplapkcleipiaaGreatDoor
/- The laws' IntValue. -/
namespace Go.Proofs.YtbplapkcleipiaaGreatDoor
open Go.ChangeShapes Go.WideShapes Go.ChangeAt Go.RowKit

set_option maxHeartbeats 1000000 in
theorem int_val (z : Int) (w : World) : Calls Tryz.prog 23 #[.int .i64 z] w fun e w' => e = .returned (vv ⟨1, z, []⟩) ∧ Ext w w' := by
  go_enter Tryz.func23, Tryz.ntmps23
  go_wp2_with fail
  exact bodyPost_ret (v := vv ⟨1, z, []⟩) (by simp [results, Tryz.results23, go_sem, vv]) rfl ⟨rfl, by repeat (first | exact Ext.refl _ | refine Ext.alloc ?_ _ _ | refine Ext.setNew ?_ _ _ (by simp; try omega) _)⟩
end Go.Proofs.YtbplapkcleipiaaGreatDoor
/- The laws' builders of values, periods and rows of two values. -/
namespace Go.Proofs.YtbplapkcleipiaaGreatDoor
open Go.ChangeShapes Go.WideShapes Go.ChangeAt Go.RowKit

/-- some value -/
def SmV (v : V) : Prop := (0 ≤ v.k ∧ v.k ≤ 2) ∧ (-1 ≤ v.n ∧ v.n ≤ 1) ∧ v.s.length ≤ 2
def BvP (w : World) (e : Ending) (w' : World) : Prop := ∃ v, e = .returned (vv v) ∧ SmV v ∧ Ext w w'
theorem wrapU (m : Int) (h0 : 0 ≤ m) (h1 : m ≤ 65535) : IntKind.u16.wrap m = m := by simp only [IntKind.wrap, IntKind.bits, IntKind.signed]; simp; omega
theorem wrapI (m : Int) (h0 : -9223372036854775808 ≤ m) (h1 : m ≤ 9223372036854775807) : IntKind.i64.wrap m = m := by simp only [IntKind.wrap, IntKind.bits, IntKind.signed]; simp; omega
set_option maxHeartbeats 4000000 in
theorem value0 (x : Int) (h0 : 0 ≤ x) (_h1 : x ≤ 65535) (w : World) : Calls Tryz.prog 49 #[.int .i64 0, .int .u16 x] w (BvP w) := by
  obtain ⟨m, hm⟩ : ∃ m, m = x % 7 := ⟨_, rfl⟩
  obtain ⟨q, hq⟩ : ∃ q, q = x % 3 := ⟨_, rfl⟩
  have hm1 : Int.tmod x 7 = m := by rw [Int.tmod_eq_emod_of_nonneg h0]; exact hm.symm
  have hq1 : Int.tmod x 3 = q := by rw [Int.tmod_eq_emod_of_nonneg h0]; exact hq.symm
  have hm2 := hm.symm
  have hq2 := hq.symm
  have hmb : 0 ≤ m ∧ m ≤ 6 := by omega
  have hqb : 0 ≤ q ∧ q ≤ 2 := by omega
  have hwm := wrapU m (by omega) (by omega)
  have hwq := wrapU q (by omega) (by omega)
  have hwi := wrapI q (by omega) (by omega)
  clear hm hq
  by_cases h6 : m = 6
  · subst h6
    go_enter Tryz.func49, Tryz.ntmps49
    go_wp2_with fail
    exact bodyPost_ret (v := vv ⟨0, 0, []⟩) (by simp [results, Tryz.results49, go_sem, vv]) rfl ⟨_, rfl, by (refine ⟨⟨?_, ?_⟩, ⟨?_, ?_⟩, ?_⟩ <;> simp <;> omega), by repeat (first | exact Ext.refl _ | refine Ext.alloc ?_ _ _ | refine Ext.setNew ?_ _ _ (by simp; try omega) _)⟩
  · have h6' : (m == 6) = false := by simpa using h6
    go_enter Tryz.func49, Tryz.ntmps49
    go_wp2_with fail
    refine (int_val (q - 1) _).mono ?_; rintro e w1 ⟨rfl, hE⟩
    have k0 := hE.keeps (al_c w #[.int .i64 0, .int .i64 0, .string { data := #[] }] 58 0 _ rfl)
    have k1 := hE.keeps (al_c w #[.int .i64 0, .int .i64 0, .string { data := #[] }] 58 1 _ rfl)
    have k2 := hE.keeps (al_c w #[.int .i64 0, .int .i64 0, .string { data := #[] }] 58 2 _ rfl)
    have kf : ∀ j, w1.frozen? ⟨w.heap.size, j, none⟩ = false := fun j => (hE.2.1 ⟨w.heap.size, j, none⟩ (by simp)).trans (by simp [World.frozen?_alloc_at])
    have kf0 := kf 0
    have kf1 := kf 1
    have kf2 := kf 2
    have hsz : w.heap.size < w1.heap.size := World.block_lt_of_cell? _ _ k0
    have hE9 : Ext w w1 := ((Ext.refl _).alloc _ _).trans hE
    clear hE kf
    go_wp2_with fail
    exact bodyPost_ret (v := vv ⟨1, q - 1, []⟩) (by simp [results, Tryz.results49, go_sem, k0, k1, k2]) rfl ⟨_, rfl, by (refine ⟨⟨?_, ?_⟩, ⟨?_, ?_⟩, ?_⟩ <;> simp <;> omega), by repeat (first | exact hE9 | exact Ext.refl _ | refine Ext.alloc ?_ _ _ | refine Ext.setNew ?_ _ _ (by simp; try omega) _)⟩
set_option maxHeartbeats 4000000 in
theorem value1 (x : Int) (h0 : 0 ≤ x) (_h1 : x ≤ 65535) (w : World) : Calls Tryz.prog 49 #[.int .i64 1, .int .u16 x] w (BvP w) := by
  obtain ⟨m, hm⟩ : ∃ m, m = x % 7 := ⟨_, rfl⟩
  obtain ⟨q, hq⟩ : ∃ q, q = x % 3 := ⟨_, rfl⟩
  have hm1 : Int.tmod x 7 = m := by rw [Int.tmod_eq_emod_of_nonneg h0]; exact hm.symm
  have hq1 : Int.tmod x 3 = q := by rw [Int.tmod_eq_emod_of_nonneg h0]; exact hq.symm
  have hm2 := hm.symm
  have hq2 := hq.symm
  have hmb : 0 ≤ m ∧ m ≤ 6 := by omega
  have hqb : 0 ≤ q ∧ q ≤ 2 := by omega
  have hwm := wrapU m (by omega) (by omega)
  have hwq := wrapU q (by omega) (by omega)
  have hwi := wrapI q (by omega) (by omega)
  clear hm hq
  by_cases h6 : m = 6
  · subst h6
    go_enter Tryz.func49, Tryz.ntmps49
    go_wp2_with fail
    exact bodyPost_ret (v := vv ⟨0, 0, []⟩) (by simp [results, Tryz.results49, go_sem, vv]) rfl ⟨_, rfl, by (refine ⟨⟨?_, ?_⟩, ⟨?_, ?_⟩, ?_⟩ <;> simp <;> omega), by repeat (first | exact Ext.refl _ | refine Ext.alloc ?_ _ _ | refine Ext.setNew ?_ _ _ (by simp; try omega) _)⟩
  · have h6' : (m == 6) = false := by simpa using h6
    rcases (show q = 0 ∨ q = 1 ∨ q = 2 by omega) with rfl | rfl | rfl
    · go_enter Tryz.func49, Tryz.ntmps49
      go_wp2_with fail
      exact bodyPost_ret (v := vv ⟨2, 0, []⟩) (by simp [results, Tryz.results49, go_sem, vv]) rfl ⟨_, rfl, by (refine ⟨⟨?_, ?_⟩, ⟨?_, ?_⟩, ?_⟩ <;> simp <;> omega), by repeat (first | exact Ext.refl _ | refine Ext.alloc ?_ _ _ | refine Ext.setNew ?_ _ _ (by simp; try omega) _)⟩
    · go_enter Tryz.func49, Tryz.ntmps49
      go_wp2_with fail
      exact bodyPost_ret (v := vv ⟨2, 0, [97]⟩) (by simp [results, Tryz.results49, go_sem, vv]) rfl ⟨_, rfl, by (refine ⟨⟨?_, ?_⟩, ⟨?_, ?_⟩, ?_⟩ <;> simp <;> omega), by repeat (first | exact Ext.refl _ | refine Ext.alloc ?_ _ _ | refine Ext.setNew ?_ _ _ (by simp; try omega) _)⟩
    · go_enter Tryz.func49, Tryz.ntmps49
      go_wp2_with fail
      exact bodyPost_ret (v := vv ⟨2, 0, [98, 39]⟩) (by simp [results, Tryz.results49, go_sem, vv]) rfl ⟨_, rfl, by (refine ⟨⟨?_, ?_⟩, ⟨?_, ?_⟩, ?_⟩ <;> simp <;> omega), by repeat (first | exact Ext.refl _ | refine Ext.alloc ?_ _ _ | refine Ext.setNew ?_ _ _ (by simp; try omega) _)⟩
/-- some values of the call's own -/
def BwP (w : World) (e : Ending) (w' : World) : Prop := ∃ (v : Value) (l : List V), e = .returned v ∧ OwnG tV.e w w' v l ∧ l.length = 2 ∧ ∀ v ∈ l, SmV v
set_option maxHeartbeats 4000000 in
theorem vals_law (x y : Int) (hx0 : 0 ≤ x) (hx1 : x ≤ 65535) (hy0 : 0 ≤ y) (hy1 : y ≤ 65535) (w : World) : Calls Tryz.prog 33 #[.int .u16 x, .int .u16 y] w (BwP w) := by
  have H0 := Lib.hid (fun w => value0 x hx0 hx1 w)
  have H1 := Lib.hid (fun w => value1 y hy0 hy1 w)
  go_enter Tryz.func33, Tryz.ntmps33
  go_wp2_with fail
  refine (H0.out _).mono ?_; rintro e w1 ⟨⟨ak, an, az⟩, rfl, sm1, hE⟩
  go_wp2_with fail
  refine (H1.out _).mono ?_; rintro e w2 ⟨⟨bk, bn, bz⟩, rfl, sm2, hE2⟩
  have hE3 := hE.trans hE2
  have SM1 := Lib.hid sm1
  have SM2 := Lib.hid sm2
  clear sm1 sm2
  go_wp2_with fail
  go_ret
  exact ⟨_, [⟨ak, an, az⟩, ⟨bk, bn, bz⟩], rfl, own_litB _ hE3 _ _ _ _ rfl rfl (by simp) rfl, rfl, fun v hv => by simp only [List.mem_cons, List.not_mem_nil, or_false] at hv; rcases hv with rfl | rfl; exact SM1.out; exact SM2.out⟩
/-- some period -/
def BpP (w : World) (e : Ending) (w' : World) : Prop := ∃ a b, e = .returned (pv a b) ∧ Ext w w'
end Go.Proofs.YtbplapkcleipiaaGreatDoor
/- awake: what all laws on queries begin with. -/
namespace Go.Proofs.YtbplapkcleipiaaGreatDoor
open Go.ChangeShapes Go.WideShapes Go.ChangeAt Go.RowKit

theorem one_of {ps : List P} {r : R} (h : rows ps = [r]) : ∃ hd, ps = [⟨hd, r⟩] := by
  cases ps with
  | nil => cases h
  | cons x l => cases l with
    | nil => simp [rows] at h; exact ⟨x.h, by rw [← h]⟩
    | cons y l => simp [rows] at h
theorem sm_good {T : Nat} (hT : 2 ≤ T) {v : V} (h : SmV v) : GoodV T v := ⟨okN_small (by have := h.1; omega) (by have := h.1; omega), okN_small (by have := h.2.1; omega) (by have := h.2.1; omega), by have := h.2.2; omega⟩
/-- one row is handed back, and no error -/
def OneP (r : R) (w : World) (e : Ending) (w' : World) : Prop := ∃ ad c hd, e = .returned (.tuple #[.slice ad 1 c, .int .i64 0]) ∧ RdG w' (.slice ad 1 c) [(⟨hd, r⟩ : P)] ∧ RdRow w' ⟨hd, r⟩ ∧ Ext w w'
theorem ev_one {w w' : World} {c : List R × Int} {e : Ending} {r : R} (h : EvP w c e w') (hc : c = ([r], 0)) : OneP r w e w' := by
  subst hc
  obtain ⟨v, qs, rfl, h1, h2, h3, h4⟩ := h
  obtain ⟨hd, rfl⟩ := one_of h3
  obtain ⟨ad, c, rfl, _, _⟩ := h1.shape
  exact ⟨ad, c, hd, rfl, h1, h2 _ (by simp), h4⟩
theorem rdV3 {w : World} {ad : Option Addr} {n cap : Nat} {l : List V} (h : RdG w (.slice ad n cap) l) (i : Nat) (hi : i < l.length) : ∃ g o, ad = some ⟨g, o, none⟩ ∧ w.cell? ⟨g, o + i * 3, none⟩ = some (.int .i64 l[i].k) ∧ w.cell? ⟨g, o + i * 3 + 1, none⟩ = some (.int .i64 l[i].n) ∧ w.cell? ⟨g, o + i * 3 + 2, none⟩ = some (sv l[i].s) := by
  obtain ⟨g, o, e, c⟩ := h.at i hi
  exact ⟨g, o, e, c 0 _ rfl, c 1 _ rfl, c 2 _ rfl⟩
theorem dbs_bd {T : Nat} {Z : List Int} {a b : List R} (ha : RowsB T Z 6 a) (hb : RowsB T Z 6 b) : ∀ tb ∈ dbs a b, RowsB T Z 6 tb.l := fun tb ht => by
  simp only [dbs, List.mem_cons, List.not_mem_nil, or_false] at ht
  rcases ht with rfl | rfl
  · exact ha
  · exact hb
theorem rdR_of {w : World} {v : Value} {ps : List P} (h : RdG w v ps) (ha : RdAll w ps) : RdR UU w v (rows ps) := ⟨ps, h, in_UU _, fun p hp => ⟨ha p hp, in_UU _, in_UU _⟩, rfl⟩
set_option maxHeartbeats 8000000 in
set_option maxRecDepth 100000 in
theorem awake_law (w : World) (hG : PT w) : Calls Tryz.prog 15 #[] w fun e w' => e = .returned (.bool true) ∧ Ext w w' := by
  have HDB := Lib.hid (fun la lb va vb w ha hb => rowdb_prg la lb va vb w ha hb)
  have HVL := Lib.hid (fun w => vals_law 0 0 (by omega) (by omega) (by omega) (by omega) w)
  have HEV := Lib.hid (fun (es : List X) (ns : List Nd) (db : List Tb) (vn ve vd : Value) (w' : World) (hE : Ext w w') (hn : RdN w' vn ns) (hl : RdG w' ve es) (hdb : RdB9 UU w' vd db) (hx : GoodX 10 es) (hbd : ∀ tb ∈ db, RowsB 10 [7] 6 tb.l) (hs : ∀ n ∈ ns, n.ex.length ≤ 1000000 ∧ n.ag.length ≤ 1000000) (hdl : db.length ≤ 1000000) =>
    evQ_prg UU 10 [7] es ns db vn ve vd w' hn hl hdb (up_UU _) (hG.ext hE) hx (by omega) (by simp) hbd hs hdl)
  have HIV := Lib.hid (fun w => int_val 0 w)
  obtain ⟨X1, hX1⟩ : ∃ X1, X1 = ((w.alloc (.cells #[.int .i64 1, .int .i64 0] 62)).alloc (.cells #[.int .i64 1, .int .i64 0, .int .i64 0, .int .i64 0, sv [114], .slice none 0 0, .slice none 0 0, .int .i64 10, .int .i64 0, .int .i64 0, .int .i64 0, sv [], .slice none 0 0, .slice (some ⟨w.heap.size, 0, none⟩) 1 1] 45)).alloc (.cells #[.slice (some ⟨w.heap.size + 1, 0, none⟩) 2 2, .slice none 0 0] 26) := ⟨_, rfl⟩
  have EX1 := Lib.hid (show Ext w X1 by rw [hX1]; exact (((Ext.refl w).alloc _ _).alloc _ _).alloc _ _)
  have HN1 := Lib.hid (show RdN X1 (.slice (some ⟨w.heap.size + 1, 0, none⟩) 2 2) aq1 by
    rw [hX1]
    refine ⟨[⟨⟨none, 0, 0, none, 0, 0⟩, ⟨1, 0, 0, 0, [114], [], []⟩⟩, ⟨⟨none, 0, 0, some ⟨w.heap.size, 0, none⟩, 1, 1⟩, ⟨10, 0, 0, 0, [], [], [(1, 0)]⟩⟩], ?_, fun q hq => ?_, rfl⟩
    · exact (rd_litG (w.alloc (.cells #[.int .i64 1, .int .i64 0] 62)) ([⟨⟨none, 0, 0, none, 0, 0⟩, ⟨1, 0, 0, 0, [114], [], []⟩⟩, ⟨⟨none, 0, 0, some ⟨w.heap.size, 0, none⟩, 1, 1⟩, ⟨10, 0, 0, 0, [], [], [(1, 0)]⟩⟩] : List NdP) #[.int .i64 1, .int .i64 0, .int .i64 0, .int .i64 0, sv [114], .slice none 0 0, .slice none 0 0, .int .i64 10, .int .i64 0, .int .i64 0, .int .i64 0, sv [], .slice none 0 0, .slice (some ⟨w.heap.size, 0, none⟩) 1 1] 45 _ 2 (by simp) rfl (by simp) rfl).ext ((Ext.refl _).alloc _ _)
    · simp only [List.mem_cons, List.not_mem_nil, or_false] at hq
      rcases hq with rfl | rfl
      · exact ⟨rdG_nil _, rdG_nil _⟩
      · exact ⟨rdG_nil _, (rd_litG w ([(1, 0)] : List (Int × Int)) #[.int .i64 1, .int .i64 0] 62 _ 1 rfl rfl (by simp) rfl).ext (((Ext.refl _).alloc _ _).alloc _ _)⟩)
  have q0 : X1.cell? ⟨w.heap.size + 1 + 1, 0, none⟩ = some (.slice (some ⟨w.heap.size + 1, 0, none⟩) 2 2) := by
    rw [hX1]
    have := al0 ((w.alloc (.cells #[.int .i64 1, .int .i64 0] 62)).alloc (.cells #[.int .i64 1, .int .i64 0, .int .i64 0, .int .i64 0, sv [114], .slice none 0 0, .slice none 0 0, .int .i64 10, .int .i64 0, .int .i64 0, .int .i64 0, sv [], .slice none 0 0, .slice (some ⟨w.heap.size, 0, none⟩) 1 1] 45)) (.slice (some ⟨w.heap.size + 1, 0, none⟩) 2 2) (.slice none 0 0) 26
    rwa [alsz, alsz] at this
  have q1 : X1.cell? ⟨w.heap.size + 1 + 1, 1, none⟩ = some (.slice none 0 0) := by
    rw [hX1]
    have := al1 ((w.alloc (.cells #[.int .i64 1, .int .i64 0] 62)).alloc (.cells #[.int .i64 1, .int .i64 0, .int .i64 0, .int .i64 0, sv [114], .slice none 0 0, .slice none 0 0, .int .i64 10, .int .i64 0, .int .i64 0, .int .i64 0, sv [], .slice none 0 0, .slice (some ⟨w.heap.size, 0, none⟩) 1 1] 45)) (.slice (some ⟨w.heap.size + 1, 0, none⟩) 2 2) (.slice none 0 0) 26
    rwa [alsz, alsz] at this
  have Q0 := Lib.hid q0
  have Q1 := Lib.hid q1
  have HQ1 := Lib.hid (fun (w' : World) (vd : Value) (hE : Ext X1 w') (hd : RdB9 UU w' vd (dbs [] [])) => (HEV.out [] aq1 (dbs [] []) _ (.slice none 0 0) vd w' (EX1.out.trans hE) (HN1.out.ext hE) (rdG_nil _) hd (fun x hx => by cases hx) (dbs_bd (fun r hr => by cases hr) (fun r hr => by cases hr)) (fun n hn => by simp only [aq1, List.mem_cons, List.not_mem_nil, or_false] at hn; rcases hn with rfl | rfl <;> simp) (by simp [dbs])).mono (R' := OneP ⟨[⟨1, 0, []⟩], []⟩ w') fun _ _ h => ev_one h aw_e1)
  have HX1 := Lib.hid hX1
  clear hX1 q0 q1 hG
  go_enter Tryz.func15, Tryz.ntmps15
  go_wp2_with fail
  rw [← HX1.out]
  go_region_held3 (fun w' => w'.cell? ⟨w.heap.size + 1 + 1, 0, none⟩ = some (.slice (some ⟨w.heap.size + 1, 0, none⟩) 2 2) ∧ w'.cell? ⟨w.heap.size + 1 + 1, 1, none⟩ = some (.slice none 0 0)) (first | exact ⟨Q0.out, Q1.out⟩ | exact ⟨f0, f1⟩ | exact ⟨g0, g1⟩ | go_keep)
    (first
      | (go_at_call 13; refine (HDB.out [] [] _ _ _ (rdR_nil UU _) (rdR_nil UU _)).mono ?_; rintro e w2 ⟨vd, rfl, hd2, hE2'⟩; have hE2 : Ext X1 w2 := hE2'; obtain ⟨da, dc, rfl, _, _⟩ := hd2.shape; have f0 := hE2.keeps Q0.out; have f1 := hE2.keeps Q1.out; have HD2 := Lib.hid hd2; have HE2 := Lib.hid hE2; clear hE2' hd2 hE2)
      | (go_at_call 12; refine (HQ1.out _ _ ?e1 ?e2).mono ?_; (case e1 => exact HE2.out); (case e2 => exact HD2.out); rintro e w3 ⟨ra, rc, rh, rfl, r3, r4, hE3'⟩; have hE3 := HE2.out.trans hE3'; have g0 := hE3.keeps Q0.out; have g1 := hE3.keeps Q1.out; have HR3 := Lib.hid r3; have HR4 := Lib.hid r4; have HE3 := Lib.hid (EX1.out.trans hE3); clear r3 r4 hE3 hE3'))
  obtain ⟨X2, hX2⟩ : ∃ X2, X2 = ((w3.alloc (.cells #[.int .i64 1, .int .i64 0, .int .i64 0, .int .i64 0, sv [114], .slice none 0 0, .slice none 0 0, .int .i64 1, .int .i64 0, .int .i64 0, .int .i64 0, sv [115], .slice none 0 0, .slice none 0 0, .int .i64 5, .int .i64 0, .int .i64 1, .int .i64 0, sv [], .slice none 0 0, .slice none 0 0] 45)).alloc (.cells #[.int .i64 1, .int .i64 0, .int .i64 0, .int .i64 0, .int .i64 3, .int .i64 1, sv []] 64)).alloc (.cells #[.slice (some ⟨w3.heap.size, 0, none⟩) 3 3, .slice (some ⟨w3.heap.size + 1, 0, none⟩) 1 1] 26) := ⟨_, rfl⟩
  have EX2 := Lib.hid (show Ext w3 X2 by rw [hX2]; exact (((Ext.refl w3).alloc _ _).alloc _ _).alloc _ _)
  have HN2 := Lib.hid (show RdN X2 (.slice (some ⟨w3.heap.size, 0, none⟩) 3 3) aq2 by
    rw [hX2]
    refine ⟨[⟨⟨none, 0, 0, none, 0, 0⟩, ⟨1, 0, 0, 0, [114], [], []⟩⟩, ⟨⟨none, 0, 0, none, 0, 0⟩, ⟨1, 0, 0, 0, [115], [], []⟩⟩, ⟨⟨none, 0, 0, none, 0, 0⟩, ⟨5, 0, 1, 0, [], [], []⟩⟩], ?_, fun q hq => ?_, rfl⟩
    · exact (rd_litG w3 ([⟨⟨none, 0, 0, none, 0, 0⟩, ⟨1, 0, 0, 0, [114], [], []⟩⟩, ⟨⟨none, 0, 0, none, 0, 0⟩, ⟨1, 0, 0, 0, [115], [], []⟩⟩, ⟨⟨none, 0, 0, none, 0, 0⟩, ⟨5, 0, 1, 0, [], [], []⟩⟩] : List NdP) #[.int .i64 1, .int .i64 0, .int .i64 0, .int .i64 0, sv [114], .slice none 0 0, .slice none 0 0, .int .i64 1, .int .i64 0, .int .i64 0, .int .i64 0, sv [115], .slice none 0 0, .slice none 0 0, .int .i64 5, .int .i64 0, .int .i64 1, .int .i64 0, sv [], .slice none 0 0, .slice none 0 0] 45 _ 3 rfl rfl (by simp) rfl).ext (((Ext.refl _).alloc _ _).alloc _ _)
    · simp only [List.mem_cons, List.not_mem_nil, or_false] at hq
      rcases hq with rfl | rfl | rfl <;> exact ⟨rdG_nil _, rdG_nil _⟩)
  have HL2 := Lib.hid (show RdG X2 (.slice (some ⟨w3.heap.size + 1, 0, none⟩) 1 1) ax2 by
    rw [hX2]
    exact (rd_litG (w3.alloc (.cells #[.int .i64 1, .int .i64 0, .int .i64 0, .int .i64 0, sv [114], .slice none 0 0, .slice none 0 0, .int .i64 1, .int .i64 0, .int .i64 0, .int .i64 0, sv [115], .slice none 0 0, .slice none 0 0, .int .i64 5, .int .i64 0, .int .i64 1, .int .i64 0, sv [], .slice none 0 0, .slice none 0 0] 45)) ax2 #[.int .i64 1, .int .i64 0, .int .i64 0, .int .i64 0, .int .i64 3, .int .i64 1, sv []] 64 _ 1 (by simp) rfl (by simp [ax2]) rfl).ext ((Ext.refl _).alloc _ _))
  have p0 : X2.cell? ⟨w3.heap.size + 1 + 1, 0, none⟩ = some (.slice (some ⟨w3.heap.size, 0, none⟩) 3 3) := by
    rw [hX2]
    have := al0 ((w3.alloc (.cells #[.int .i64 1, .int .i64 0, .int .i64 0, .int .i64 0, sv [114], .slice none 0 0, .slice none 0 0, .int .i64 1, .int .i64 0, .int .i64 0, .int .i64 0, sv [115], .slice none 0 0, .slice none 0 0, .int .i64 5, .int .i64 0, .int .i64 1, .int .i64 0, sv [], .slice none 0 0, .slice none 0 0] 45)).alloc (.cells #[.int .i64 1, .int .i64 0, .int .i64 0, .int .i64 0, .int .i64 3, .int .i64 1, sv []] 64)) (.slice (some ⟨w3.heap.size, 0, none⟩) 3 3) (.slice (some ⟨w3.heap.size + 1, 0, none⟩) 1 1) 26
    rwa [alsz, alsz] at this
  have p1 : X2.cell? ⟨w3.heap.size + 1 + 1, 1, none⟩ = some (.slice (some ⟨w3.heap.size + 1, 0, none⟩) 1 1) := by
    rw [hX2]
    have := al1 ((w3.alloc (.cells #[.int .i64 1, .int .i64 0, .int .i64 0, .int .i64 0, sv [114], .slice none 0 0, .slice none 0 0, .int .i64 1, .int .i64 0, .int .i64 0, .int .i64 0, sv [115], .slice none 0 0, .slice none 0 0, .int .i64 5, .int .i64 0, .int .i64 1, .int .i64 0, sv [], .slice none 0 0, .slice none 0 0] 45)).alloc (.cells #[.int .i64 1, .int .i64 0, .int .i64 0, .int .i64 0, .int .i64 3, .int .i64 1, sv []] 64)) (.slice (some ⟨w3.heap.size, 0, none⟩) 3 3) (.slice (some ⟨w3.heap.size + 1, 0, none⟩) 1 1) 26
    rwa [alsz, alsz] at this
  have P0 := Lib.hid p0
  have P1 := Lib.hid p1
  have HE23 := Lib.hid (HE3.out.trans EX2.out)
  have HQ2 := Lib.hid (fun (w' : World) (vd : Value) (x y : V) (hE : Ext X2 w') (hd : RdB9 UU w' vd (dbs [⟨[x, y], [7]⟩] [])) (hx : SmV x) (hy : SmV y) => (HEV.out ax2 aq2 (dbs [⟨[x, y], [7]⟩] []) _ _ vd w' (HE23.out.trans hE) (HN2.out.ext hE) (HL2.out.ext hE) hd (fun x hx => by
      simp only [ax2, List.mem_cons, List.not_mem_nil, or_false] at hx; subst hx
      exact ⟨okN_small (by decide) (by decide), okN_small (by decide) (by decide), by simp⟩) (dbs_bd (fun r hr => by
      simp only [List.mem_cons, List.not_mem_nil, or_false] at hr; subst hr
      refine ⟨by simp, fun v hv => ?_, .inl (by simp), fun z hz => hz⟩
      simp only [List.mem_cons, List.not_mem_nil, or_false] at hv
      rcases hv with rfl | rfl
      · exact sm_good (by omega) hx
      · exact sm_good (by omega) hy) (fun r hr => by cases hr)) (fun n hn => by simp only [aq2, List.mem_cons, List.not_mem_nil, or_false] at hn; rcases hn with rfl | rfl | rfl <;> simp) (by simp [dbs])).mono (R' := OneP ⟨[x, y, nul, nul], [7]⟩ w') fun _ _ h => ev_one h (aw_e2 x y [7]))
  have HCK := Lib.hid (fun (w' : World) (hE : Ext X2 w') => (chkQ_prg UU ax2 aq2 [] _ _ (.slice none 0 0) w' (HN2.out.ext hE) (HL2.out.ext hE) ⟨[], rdG_nil _, fun q hq => (by cases hq), rfl⟩ (up_UU _) (fun n hn => by simp only [aq2, List.mem_cons, List.not_mem_nil, or_false] at hn; rcases hn with rfl | rfl | rfl <;> simp)).mono (R' := fun e w'' => ∃ v, e = .returned (.tuple #[v, .int .i64 8]) ∧ Ext w' w'') fun e w'' h => by
    rw [aw_c3] at h
    obtain ⟨v, rfl, _, hE⟩ := h
    exact ⟨v, rfl, hE⟩)
  have HX2 := Lib.hid hX2
  clear hX2 p0 p1
  go_wp2_with fail
  rw [← HX2.out]
  go_region_held3 (fun w' => w'.cell? ⟨w3.heap.size + 1 + 1, 0, none⟩ = some (.slice (some ⟨w3.heap.size, 0, none⟩) 3 3) ∧ w'.cell? ⟨w3.heap.size + 1 + 1, 1, none⟩ = some (.slice (some ⟨w3.heap.size + 1, 0, none⟩) 1 1)) (first | exact ⟨P0.out, P1.out⟩ | exact ⟨((Ext.refl X2).alloc _ _).keeps P0.out, ((Ext.refl X2).alloc _ _).keeps P1.out⟩ | exact ⟨f0, f1⟩ | exact ⟨((Ext.refl w4).alloc _ _).keeps f0, ((Ext.refl w4).alloc _ _).keeps f1⟩ | exact ⟨(((Ext.refl w4).alloc _ _).alloc _ _).keeps f0, (((Ext.refl w4).alloc _ _).alloc _ _).keeps f1⟩ | exact ⟨g0, g1⟩ | exact ⟨h0, h1⟩ | go_keep)
    (first
      | (go_at_call 33; refine (HVL.out _).mono ?_; rintro e w4 ⟨v4, l4, rfl, hO4', hl4, hs4⟩; obtain ⟨a4, c4, rfl, _, _⟩ := hO4'.rd.shape; rw [hl4]; rw [hl4] at hO4'; obtain ⟨x, y, rfl⟩ : ∃ x y, l4 = [x, y] := (match l4, hl4 with | [x, y], _ => ⟨x, y, rfl⟩); have SX := Lib.hid (hs4 x (by simp)); have SY := Lib.hid (hs4 y (by simp)); first
        | (have hO4 : OwnG tV.e X2 w4 (.slice a4 2 c4) [x, y] := hO4'; have HO4 := Lib.hid hO4; have f0 := hO4.2.keeps P0.out; have f1 := hO4.2.keeps P1.out; have HRD := Lib.hid (show RdR UU ((w4.alloc (.cells #[.int .i64 7] 3)).alloc (.cells #[.slice a4 2 c4, .slice (some ⟨w4.heap.size, 0, none⟩) 1 1] 51)) (.slice (some ⟨w4.heap.size + 1, 0, none⟩) 1 1) [⟨[x, y], [7]⟩] from rdR_of (rd_litG (w4.alloc (.cells #[.int .i64 7] 3)) ([⟨⟨a4, 2, c4, some ⟨w4.heap.size, 0, none⟩, 1, 1⟩, ⟨[x, y], [7]⟩⟩] : List P) #[.slice a4 2 c4, .slice (some ⟨w4.heap.size, 0, none⟩) 1 1] 51 _ 1 (by simp) rfl (by simp) rfl) (fun p hp => by simp only [List.mem_cons, List.not_mem_nil, or_false] at hp; subst hp; exact ⟨hO4.rd.ext (((Ext.refl w4).alloc _ _).alloc _ _), (rd_litG w4 ([7] : List Int) #[.int .i64 7] 3 _ 1 rfl rfl (by simp) rfl).ext ((Ext.refl _).alloc _ _)⟩)); have HE4 := Lib.hid (show Ext X2 ((w4.alloc (.cells #[.int .i64 7] 3)).alloc (.cells #[.slice a4 2 c4, .slice (some ⟨w4.heap.size, 0, none⟩) 1 1] 51)) from (hO4.2.alloc _ _).alloc _ _); clear hO4 hO4' hl4 hs4)
        | (have hO4 : OwnG tV.e (X2.alloc (.cells #[.int .i64 7] 3)) w4 (.slice a4 2 c4) [x, y] := hO4'; have e4 : Ext X2 w4 := ((Ext.refl X2).alloc _ _).trans hO4.2; have f0 := e4.keeps P0.out; have f1 := e4.keeps P1.out; have HRD := Lib.hid (show RdR UU (w4.alloc (.cells #[.slice a4 2 c4, .slice (some ⟨X2.heap.size, 0, none⟩) 1 1] 51)) (.slice (some ⟨w4.heap.size, 0, none⟩) 1 1) [⟨[x, y], [7]⟩] from rdR_of (rd_litG w4 ([⟨⟨a4, 2, c4, some ⟨X2.heap.size, 0, none⟩, 1, 1⟩, ⟨[x, y], [7]⟩⟩] : List P) #[.slice a4 2 c4, .slice (some ⟨X2.heap.size, 0, none⟩) 1 1] 51 _ 1 rfl rfl (by simp) rfl) (fun p hp => by simp only [List.mem_cons, List.not_mem_nil, or_false] at hp; subst hp; exact ⟨hO4.rd.ext ((Ext.refl w4).alloc _ _), (rd_litG X2 ([7] : List Int) #[.int .i64 7] 3 _ 1 rfl rfl (by simp) rfl).ext (hO4.2.alloc _ _)⟩)); have HE4 := Lib.hid (show Ext X2 (w4.alloc (.cells #[.slice a4 2 c4, .slice (some ⟨X2.heap.size, 0, none⟩) 1 1] 51)) from e4.alloc _ _); clear hO4 hO4' hl4 hs4 e4))
      | (go_at_call 13; refine (HDB.out [⟨[x, y], [7]⟩] [] _ _ _ ?rd (rdR_nil UU _)).mono ?_; (case rd => exact HRD.out); rintro e w5 ⟨vd, rfl, hd5, hE5'⟩; have hE5 : Ext X2 w5 := HE4.out.trans hE5'; obtain ⟨da5, dc5, rfl, _, _⟩ := hd5.shape; have g0 := hE5.keeps P0.out; have g1 := hE5.keeps P1.out; have HD5 := Lib.hid hd5; have HE5 := Lib.hid hE5; clear hE5' hd5 hE5)
      | (go_at_call 12; refine (HQ2.out _ _ x y ?e1 ?e2 SX.out SY.out).mono ?_; (case e1 => exact HE5.out); (case e2 => exact HD5.out); rintro e w6 ⟨ma, mc, mh, rfl, r6, rr6, hE6'⟩; have hE6 := HE5.out.trans hE6'; have h0 := hE6.keeps P0.out; have h1 := hE6.keeps P1.out; have HR6 := Lib.hid r6; have HRR6 := Lib.hid rr6; have HE6 := Lib.hid hE6; clear r6 rr6 hE6 hE6'))
  all_goals
    go_wp2_with fail
    refine (HCK.out _ HE6.out).mono ?_; rintro e w7 ⟨v7, rfl, hE7⟩
    obtain ⟨ga, oa, rfl, a0, a1⟩ := rd_P HR3.out 0 (by simp)
    have hx3 := HR4.out.1
    obtain ⟨gc, oc, rfl, b0, b1⟩ := rd_P HR6.out 0 (by simp)
    have hx6 := HRR6.out.1
    obtain ⟨ha, hn, hc, hb, hm, hd⟩ := rh
    obtain ⟨ka, kn, kc, kb, km, kd⟩ := mh
    simp only [Hd.x] at hx3 hx6
    obtain rfl : hn = 1 := hx3.len.1
    obtain rfl : kn = 4 := hx6.len.1
    obtain ⟨gb, ob, rfl, c0, c1, c2⟩ := rdV3 hx3 0 (by simp)
    obtain ⟨gd, od, rfl, d0, d1, d2⟩ := rdV3 hx6 3 (by simp)
    have hE37 := (EX2.out.trans HE6.out).trans hE7
    have A0 := Lib.hid (hE37.keeps a0)
    have B0 := Lib.hid (hE37.keeps c0)
    have B1 := Lib.hid (hE37.keeps c1)
    have B2 := Lib.hid (hE37.keeps c2)
    have C0 := Lib.hid (hE7.keeps b0)
    have D0 := Lib.hid (hE7.keeps d0)
    have D1 := Lib.hid (hE7.keeps d1)
    have D2 := Lib.hid (hE7.keeps d2)
    have HEE := Lib.hid (HE3.out.trans hE37)
    clear a0 a1 b0 b1 c0 c1 c2 d0 d1 d2 hE7 hE37 hx3 hx6
    simp only [Nat.zero_mul, Nat.add_zero, List.getElem_cons_zero, List.getElem_cons_succ, Hd.x, nul] at A0 B0 B1 B2 C0 D0 D1 D2 ⊢
    have E0 := Lib.hid (show w7.cell? ⟨gd, od + 9, none⟩ = some (.int .i64 0) from D0.out)
    have E1 := Lib.hid (show w7.cell? ⟨gd, od + 9 + 1, none⟩ = some (.int .i64 0) from D1.out)
    have E2 := Lib.hid (show w7.cell? ⟨gd, od + 9 + 2, none⟩ = some (sv []) from D2.out)
    go_wp2_with fail
    go_region_held3 (fun w' => w'.cell? ⟨ga, oa, none⟩ = some (.slice (some ⟨gb, ob, none⟩) 1 hc) ∧ w'.cell? ⟨gb, ob, none⟩ = some (.int .i64 1) ∧ w'.cell? ⟨gb, ob + 1, none⟩ = some (.int .i64 0) ∧ w'.cell? ⟨gb, ob + 2, none⟩ = some (sv []) ∧ w'.cell? ⟨gc, oc, none⟩ = some (.slice (some ⟨gd, od, none⟩) 4 kc) ∧ w'.cell? ⟨gd, od + 9, none⟩ = some (.int .i64 0) ∧ w'.cell? ⟨gd, od + 9 + 1, none⟩ = some (.int .i64 0) ∧ w'.cell? ⟨gd, od + 9 + 2, none⟩ = some (sv []))
      (first | exact ⟨A0.out, B0.out, B1.out, B2.out, C0.out, E0.out, E1.out, E2.out⟩ | exact ⟨f0, f1, f2, f3, f4, f5, f6, f7⟩ | go_keep)
      (first | (go_at_call 23; refine (HIV.out _).mono ?_; rintro e w8 ⟨rfl, hE8'⟩; have hE8 : Ext w7 w8 := hE8'; have f0 := hE8.keeps A0.out; have f1 := hE8.keeps B0.out; have f2 := hE8.keeps B1.out; have f3 := hE8.keeps B2.out; have f4 := hE8.keeps C0.out; have f5 := hE8.keeps E0.out; have f6 := hE8.keeps E1.out; have f7 := hE8.keeps E2.out))
    all_goals
      go_wp2_with fail
      go_ret
      exact ⟨rfl, HEE.out.trans hE8⟩
end Go.Proofs.YtbplapkcleipiaaGreatDoor
/- Slices of rows, of numbers and of five numbers, «as» arguments. -/
namespace Go.Proofs.YtbplapkcleipiaaGreatDoor
open Go.ChangeShapes Go.WideShapes Go.ChangeAt Go.RowKit Go.Joins

section
variable {H : Type} {enc : TypeId × Value → H} {w : World} {base : Nat} {held : Bool}
theorem el8_I (fuel : Nat) (cs : List Value) (y : DataW H × List MemPlace) (h : DataW.trod enc Tryz.prog w base (fun _ => true) held fuel 3 cs = some y) : ∃ x : Int, cs = Enc.cells x ∧ True := by
  obtain ⟨a, e, _, _⟩ := DataW.trod_int Tryz.underlying3 h
  exact ⟨a, e, trivial⟩
set_option maxRecDepth 100000 in
theorem el8_V (fuel : Nat) (cs : List Value) (y : DataW H × List MemPlace) (hl : cs.length = 3) (h : DataW.trod enc Tryz.prog w base (fun _ => true) held fuel 58 cs = some y) : ∃ x : V, cs = Enc.cells x ∧ True := by
  obtain ⟨xs, k, _, _, _, hxl, hff⟩ := DataW.trod_struct Tryz.underlying58 h
  have hxl3 : xs.length = 3 := hxl
  match cs, hl with
  | [v0, v1, v2], _ =>
    have g0 := hff 0 _ rfl
    have g1 := hff 1 _ rfl
    have g2 := hff 2 _ rfl
    obtain ⟨y0, q0⟩ : ∃ y, xs[0]? = some y := ⟨_, List.getElem?_eq_getElem (by omega)⟩
    obtain ⟨y1, q1⟩ : ∃ y, xs[1]? = some y := ⟨_, List.getElem?_eq_getElem (by omega)⟩
    obtain ⟨y2, q2⟩ : ∃ y, xs[2]? = some y := ⟨_, List.getElem?_eq_getElem (by omega)⟩
    rw [q0] at g0
    rw [q1] at g1
    rw [q2] at g2
    have k0 : Tryz.prog.cellsOf 3 = 1 := by kernel_rfl
    have k1 : Tryz.prog.cellsOf 2 = 1 := by kernel_rfl
    have k2 : Tryz.prog.cellsOf 9 = 1 := by kernel_rfl
    have h0' : DataW.trod enc Tryz.prog w base (fun _ => true) held k 3 (([v0, v1, v2].drop 0).take (Tryz.prog.cellsOf 3)) = some y0 := g0
    rw [k0] at h0'
    have p0 : DataW.trod enc Tryz.prog w base (fun _ => true) held k 3 [v0] = some y0 := h0'
    have h1' : DataW.trod enc Tryz.prog w base (fun _ => true) held k 2 (([v0, v1, v2].drop 1).take (Tryz.prog.cellsOf 2)) = some y1 := g1
    rw [k1] at h1'
    have p1 : DataW.trod enc Tryz.prog w base (fun _ => true) held k 2 [v1] = some y1 := h1'
    have h2' : DataW.trod enc Tryz.prog w base (fun _ => true) held k 9 (([v0, v1, v2].drop 2).take (Tryz.prog.cellsOf 9)) = some y2 := g2
    rw [k2] at h2'
    have p2 : DataW.trod enc Tryz.prog w base (fun _ => true) held k 9 [v2] = some y2 := h2'
    obtain ⟨z0, f0, _, _⟩ := DataW.trod_int Tryz.underlying3 p0
    obtain ⟨z1, f1, _, _⟩ := DataW.trod_int Tryz.underlying2 p1
    obtain ⟨z2, f2, _, _⟩ := DataW.trod_string Tryz.underlying9 p2
    obtain rfl := List.cons.inj f0 |>.1
    obtain rfl := List.cons.inj f1 |>.1
    obtain rfl := List.cons.inj f2 |>.1
    exact ⟨⟨z0, z1, z2.data.toList⟩, by simp [Enc.cells], trivial⟩
set_option maxRecDepth 100000 in
theorem el8_P (fuel : Nat) (cs : List Value) (y : DataW H × List MemPlace) (hl : cs.length = 2) (h : DataW.trod enc Tryz.prog w base (fun _ => true) held fuel 51 cs = some y) : ∃ x : P, cs = Enc.cells x ∧ RdRow w x := by
  obtain ⟨xs, k, _, _, _, hxl, hff⟩ := DataW.trod_struct Tryz.underlying51 h
  have hxl2 : xs.length = 2 := hxl
  match cs, hl with
  | [v0, v1], _ =>
    have g0 := hff 0 _ rfl
    have g1 := hff 1 _ rfl
    obtain ⟨y0, q0⟩ : ∃ y, xs[0]? = some y := ⟨_, List.getElem?_eq_getElem (by omega)⟩
    obtain ⟨y1, q1⟩ : ∃ y, xs[1]? = some y := ⟨_, List.getElem?_eq_getElem (by omega)⟩
    rw [q0] at g0
    rw [q1] at g1
    have k0 : Tryz.prog.cellsOf 49 = 1 := by kernel_rfl
    have k1 : Tryz.prog.cellsOf 41 = 1 := by kernel_rfl
    have h0' : DataW.trod enc Tryz.prog w base (fun _ => true) held k 49 (([v0, v1].drop 0).take (Tryz.prog.cellsOf 49)) = some y0 := g0
    rw [k0] at h0'
    have p0 : DataW.trod enc Tryz.prog w base (fun _ => true) held k 49 [v0] = some y0 := h0'
    have h1' : DataW.trod enc Tryz.prog w base (fun _ => true) held k 41 (([v0, v1].drop 1).take (Tryz.prog.cellsOf 41)) = some y1 := g1
    rw [k1] at h1'
    have p1 : DataW.trod enc Tryz.prog w base (fun _ => true) held k 41 [v1] = some y1 := h1'
    obtain ⟨u0, l0, f0, r0, _⟩ := open_GT (fun _ : V => True) Tryz.underlying49 (by kernel_rfl) (fun f cs y hl => el8_V f cs y hl) p0
    obtain ⟨u1, l1, f1, r1, _⟩ := open_GT (fun _ : Int => True) Tryz.underlying41 (by kernel_rfl) (fun f cs y _ => el8_I f cs y) p1
    obtain rfl := List.cons.inj f0 |>.1
    obtain rfl := List.cons.inj f1 |>.1
    obtain ⟨a0, c0, rfl, _, _⟩ := r0.shape
    obtain ⟨a1, c1, rfl, _, _⟩ := r1.shape
    exact ⟨⟨⟨a0, l0.length, c0, a1, l1.length, c1⟩, ⟨l0, l1⟩⟩, rfl, r0, r1⟩
set_option maxRecDepth 100000 in
theorem el8_F (fuel : Nat) (cs : List Value) (y : DataW H × List MemPlace) (hl : cs.length = 5) (h : DataW.trod enc Tryz.prog w base (fun _ => true) held fuel 78 cs = some y) : ∃ x : Five, cs = Enc.cells x ∧ x.ok := by
  obtain ⟨xs, k, _, _, _, hxl, hff⟩ := DataW.trod_array Tryz.underlying78 h
  have k0 : Tryz.prog.cellsOf 39 = 1 := by kernel_rfl
  rw [k0] at hff
  match cs, hl with
  | [v0, v1, v2, v3, v4], _ =>
    have one : ∀ i v, i < 5 → (([v0, v1, v2, v3, v4].drop (i * 1)).take 1) = [v] → ∃ z : Int, v = .int .u16 z ∧ 0 ≤ z ∧ z ≤ 65535 := by
      intro i v hi hv
      have g := hff i hi
      rw [hv] at g
      obtain ⟨yy, q⟩ : ∃ y, xs[i]? = some y := ⟨_, List.getElem?_eq_getElem (by omega)⟩
      rw [q] at g
      obtain ⟨z, f, _, wz⟩ := DataW.trod_int Tryz.underlying39 g
      have h1 : IntKind.u16.min = 0 := by decide
      have h2 : IntKind.u16.max = 65535 := by decide
      simp [Lit.wf] at wz
      exact ⟨z, (List.cons.inj f).1, by omega, by omega⟩
    obtain ⟨z0, rfl, b0⟩ := one 0 _ (by decide) rfl
    obtain ⟨z1, rfl, b1⟩ := one 1 _ (by decide) rfl
    obtain ⟨z2, rfl, b2⟩ := one 2 _ (by decide) rfl
    obtain ⟨z3, rfl, b3⟩ := one 3 _ (by decide) rfl
    obtain ⟨z4, rfl, b4⟩ := one 4 _ (by decide) rfl
    exact ⟨⟨z0, z1, z2, z3, z4⟩, rfl, b0, b1, b2, b3, b4⟩
set_option maxRecDepth 100000 in
theorem open_rows {r : Reach} {b0 : Nat} {v : Value} {d : DataW H} {p : List MemPlace} (hv : Value.okWide Tryz.prog w r b0 28 v) (h : DataW.Trod enc Tryz.prog w base (fun _ => true) held 28 v d p) : ∃ l : List P, RdG w v l ∧ RdAll w l :=
  open_G (RdRow w) Tryz.underlying28 (by kernel_rfl) (fun f cs y hl => el8_P f cs y hl) hv h
set_option maxRecDepth 100000 in
theorem open_nums {r : Reach} {b0 : Nat} {v : Value} {d : DataW H} {p : List MemPlace} (hv : Value.okWide Tryz.prog w r b0 41 v) (h : DataW.Trod enc Tryz.prog w base (fun _ => true) held 41 v d p) : ∃ l : List Int, RdG w v l :=
  let ⟨l, h1, _⟩ := open_G (fun _ : Int => True) Tryz.underlying41 (by kernel_rfl) (fun f cs y _ => el8_I f cs y) hv h
  ⟨l, h1⟩
set_option maxRecDepth 100000 in
theorem open_fives {r : Reach} {b0 : Nat} {v : Value} {d : DataW H} {p : List MemPlace} (hv : Value.okWide Tryz.prog w r b0 22 v) (h : DataW.Trod enc Tryz.prog w base (fun _ => true) held 22 v d p) : ∃ l : List Five, RdG w v l ∧ ∀ x ∈ l, x.ok :=
  open_G Five.ok Tryz.underlying22 (by kernel_rfl) (fun f cs y hl => el8_F f cs y hl) hv h
end
end Go.Proofs.YtbplapkcleipiaaGreatDoor
