/- Rows of values with their lineage: how they lie, and slices of them. -/
import Derived.Test.YtnckdopphimgoaaZz06
import Derived.Test.YtnckdopphimgoaaZz09
import Derived.Test.YtnckdopphimgoaaZz19
namespace Go.Proofs.Ytnckdopphimgoaa
open Go.ChangeShapes Go.WideShapes Go.ChangeAt Go.RowKit

/-- two slice headers -/
structure Hd where
  a : Option Addr
  n : Nat
  c : Nat
  b : Option Addr
  m : Nat
  d : Nat
abbrev Hd.x (h : Hd) : Value := .slice h.a h.n h.c
abbrev Hd.y (h : Hd) : Value := .slice h.b h.m h.d
/-- a row: how it lies, and what it is -/
structure P where
  h : Hd
  r : R
instance : Inhabited P := ⟨⟨⟨none, 0, 0, none, 0, 0⟩, ⟨[], []⟩⟩⟩
instance : Enc P := ⟨2, by decide, fun p => [p.h.x, p.h.y], fun _ => rfl, fun a u h => by simp at h; rcases h with rfl | rfl <;> rfl⟩
theorem rd_P {w : World} {ad : Option Addr} {n cap : Nat} {l : List P} (h : RdG w (.slice ad n cap) l) (i : Nat) (hi : i < l.length) : ∃ g o, ad = some ⟨g, o, none⟩ ∧ w.cell? ⟨g, o + i * 2, none⟩ = some l[i].h.x ∧ w.cell? ⟨g, o + i * 2 + 1, none⟩ = some l[i].h.y := by
  obtain ⟨g, o, e, c⟩ := h.at i hi
  exact ⟨g, o, e, c 0 _ rfl, c 1 _ rfl⟩
/-- what the headers reach -/
def RdRow (w : World) (p : P) : Prop := RdG w p.h.x p.r.v ∧ RdG w p.h.y p.r.t
theorem RdRow.ext {w w' : World} {p : P} (h : RdRow w p) (e : Ext w w') : RdRow w' p := ⟨h.1.ext e, h.2.ext e⟩
def RdAll (w : World) (ps : List P) : Prop := ∀ p ∈ ps, RdRow w p
theorem RdAll.ext {w w' : World} {ps : List P} (h : RdAll w ps) (e : Ext w w') : RdAll w' ps := fun p hp => (h p hp).ext e
def rows (ps : List P) : List R := ps.map P.r
theorem rows_len (ps : List P) : (rows ps).length = ps.length := List.length_map _
theorem rows_at (ps : List P) (i : Nat) (h : i < ps.length) : (rows ps)[i]'(by rw [rows_len]; exact h) = ps[i].r := by simp [rows]
theorem rows_app (a b : List P) : rows (a ++ b) = rows a ++ rows b := List.map_append
theorem rows_take (a : List P) (k : Nat) : rows (a.take k) = (rows a).take k := List.map_take
theorem rows_drop (a : List P) (k : Nat) : rows (a.drop k) = (rows a).drop k := List.map_drop
theorem RdG.drop {α : Type} [Enc α] {w : World} {g o n cap i : Nat} {l : List α} (h : RdG w (.slice (some ⟨g, o, none⟩) n cap) l) (hi : i ≤ n) : RdG w (.slice (some ⟨g, o + i * Enc.sz α, none⟩) (n - i) (cap - i)) (l.drop i) := by
  obtain ⟨ad', cap', e, h1, h2, h3, h4⟩ := h
  simp only [Value.slice.injEq] at e
  obtain ⟨rfl, rfl, rfl⟩ := e
  refine ⟨_, cap - i, by rw [List.length_drop], by rw [List.length_drop]; omega, by omega, (fun h => by cases h), fun j hj => ?_⟩
  rw [List.length_drop] at hj
  obtain ⟨g', o', e, c⟩ := h4 (i + j) (by omega)
  simp only [Option.some.injEq, Addr.mk.injEq, and_true] at e
  obtain ⟨rfl, rfl⟩ := e
  refine ⟨_, _, rfl, fun k u hu => ?_⟩
  rw [List.getElem_drop] at hu
  have := c k u hu
  rw [← this]
  congr 2
  rw [Nat.add_mul]; omega
/-- two bags that a call hands back -/
def DP (w : World) (l g : List R) (e : Ending) (w' : World) : Prop := ∃ v1 v2 os ot, e = .returned (.tuple #[v1, v2]) ∧ (RdG w' v1 os ∧ RdAll w' os ∧ rows os = l) ∧ (RdG w' v2 ot ∧ RdAll w' ot ∧ rows ot = g) ∧ Ext w w'
/-- an empty slice that the code writes out -/
theorem own_lit0 {α : Type} [Enc α] (e : TypeId) {W X : World} (h : Ext W X) (n : Nat) (hn : n = X.heap.size) : OwnG e W (X.alloc (.cells #[] e)) (.slice (some ⟨n, 0, none⟩) 0 0) ([] : List α) := by
  subst hn
  exact ⟨World.ownsRow_lit X #[] 0 h.2.2 (Nat.zero_le _) (by simp), h.alloc _ _⟩
set_option maxHeartbeats 1000000 in
theorem comp_gw (x y : R) (va ta vb tb : Value) (w : World) (hva : RdG w va x.v) (hta : RdG w ta x.t) (hvb : RdG w vb y.v) (htb : RdG w tb y.t) :
    Calls Try.prog 38 #[.agg #[va, ta], .agg #[vb, tb]] w fun e w' => e = .returned (.int .i64 (cmpW x y)) ∧ Gw w w' := by
  obtain ⟨a1, c1, rfl, _, _⟩ := hva.shape
  obtain ⟨a2, c2, rfl, _, _⟩ := hta.shape
  obtain ⟨a3, c3, rfl, _, _⟩ := hvb.shape
  obtain ⟨a4, c4, rfl, _, _⟩ := htb.shape
  have H1 := Lib.hid hva
  have H2 := Lib.hid hta
  have H3 := Lib.hid hvb
  have H4 := Lib.hid htb
  have hlen1 := x.v.length
  clear hva hta hvb htb
  obtain ⟨n1, e1⟩ : ∃ n, n = x.v.length := ⟨_, rfl⟩
  obtain ⟨n2, e2⟩ : ∃ n, n = x.t.length := ⟨_, rfl⟩
  obtain ⟨n3, e3⟩ : ∃ n, n = y.v.length := ⟨_, rfl⟩
  obtain ⟨n4, e4⟩ : ∃ n, n = y.t.length := ⟨_, rfl⟩
  rw [← e1] at H1 ⊢
  rw [← e2] at H2 ⊢
  rw [← e3] at H3 ⊢
  rw [← e4] at H4 ⊢
  clear e1 e2 e3 e4
  by_cases hz : cmpR x.v y.v = 0
  · have HR := Lib.hid (show cmpW x y = cmpN x.t y.t by unfold cmpW; rw [if_pos hz])
    have hcr := crows_gw x.v y.v
    rw [hz] at hcr
    have HC := Lib.hid hcr
    clear hcr hz
    go_enter Try.func38, Try.ntmps38
    go_wp2_with fail
    refine (HC.out _ _ _ (H1.out.ext (gw2 _ _ _).ext) (H3.out.ext (gw2 _ _ _).ext)).mono ?_; rintro e w1 ⟨rfl, hg⟩
    have hgw := Lib.hid ((gw2 w (.cells #[.slice a1 n1 c1, .slice a2 n2 c2] 47) (.cells #[.slice a3 n3 c3, .slice a4 n4 c4] 47)).trans hg)
    have k1 := hg.ext.keeps (((Ext.refl _).alloc _ _).keeps (al1 w (.slice a1 n1 c1) (.slice a2 n2 c2) 47))
    have k2 := hg.ext.keeps (al1 (w.alloc (.cells #[.slice a1 n1 c1, .slice a2 n2 c2] 47)) (.slice a3 n3 c3) (.slice a4 n4 c4) 47)
    rw [alsz] at k2
    have s1 : w.heap.size < w1.heap.size := World.block_lt_of_cell? _ _ k1
    have s2 : w.heap.size + 1 < w1.heap.size := World.block_lt_of_cell? _ _ k2
    clear hg
    go_wp2_with fail
    refine (cfn_gw x.t y.t _ _ _ (H2.out.ext hgw.out.ext) (H4.out.ext hgw.out.ext)).mono ?_; rintro e w2 ⟨rfl, hg2⟩
    go_wp2_with fail
    go_ret
    exact ⟨ret_int HR.out.symm, hgw.out.trans hg2⟩
  · have HR := Lib.hid (show cmpW x y = cmpR x.v y.v by unfold cmpW; rw [if_neg hz])
    have hz1 : (cmpR x.v y.v == 0) = false := by simpa using hz
    go_enter Try.func38, Try.ntmps38
    go_wp2_with fail
    refine (crows_gw x.v y.v _ _ _ (H1.out.ext (gw2 _ _ _).ext) (H3.out.ext (gw2 _ _ _).ext)).mono ?_; rintro e w1 ⟨rfl, hg⟩
    go_wp2_with fail
    go_ret
    exact ⟨ret_int HR.out.symm, (gw2 _ _ _).trans hg⟩
end Go.Proofs.Ytnckdopphimgoaa
/- Tuples: how they lie. -/
namespace Go.Proofs.Ytnckdopphimgoaa
open Go.ChangeShapes Go.WideShapes Go.ChangeAt Go.RowKit

/-- a tuple: how it lies, and what it is -/
structure TP where
  h : Hd
  r : R
  a : Int
  b : Int
instance : Inhabited TP := ⟨⟨⟨none, 0, 0, none, 0, 0⟩, ⟨[], []⟩, 0, 0⟩⟩
instance : Enc TP := ⟨4, by decide, fun p => [p.h.x, .int .i64 p.a, .int .i64 p.b, p.h.y], fun _ => rfl, fun a u h => by simp at h; rcases h with rfl | rfl | rfl | rfl <;> rfl⟩
def tT : RowT TP := ⟨31, 23, default, .agg #[.slice none 0 0, .int .i64 0, .int .i64 0, .slice none 0 0], 64, Try.underlying23, by kernel_rfl, by rfl, by decide⟩
theorem rd_T {w : World} {ad : Option Addr} {n cap : Nat} {l : List TP} (h : RdG w (.slice ad n cap) l) (i : Nat) (hi : i < l.length) : ∃ g o, ad = some ⟨g, o, none⟩ ∧ w.cell? ⟨g, o + i * 4, none⟩ = some l[i].h.x ∧ w.cell? ⟨g, o + i * 4 + 1, none⟩ = some (.int .i64 l[i].a) ∧ w.cell? ⟨g, o + i * 4 + 2, none⟩ = some (.int .i64 l[i].b) ∧ w.cell? ⟨g, o + i * 4 + 3, none⟩ = some l[i].h.y := by
  obtain ⟨g, o, e, c⟩ := h.at i hi
  exact ⟨g, o, e, c 0 _ rfl, c 1 _ rfl, c 2 _ rfl, c 3 _ rfl⟩
end Go.Proofs.Ytnckdopphimgoaa
/- Tuples: how they lie, and slices of them; the row of a tuple, by the program and by the reference. -/
namespace Go.Proofs.Ytnckdopphimgoaa
open Go.ChangeShapes Go.WideShapes Go.ChangeAt Go.RowKit

abbrev TP.row (p : TP) : P := ⟨p.h, p.r⟩
abbrev TP.tu (p : TP) : Tu := ⟨p.r, p.a, p.b⟩
abbrev tv (p : TP) : Value := .agg #[p.h.x, .int .i64 p.a, .int .i64 p.b, p.h.y]
/-- what the headers reach -/
def RdT (w : World) (p : TP) : Prop := RdG w p.h.x p.r.v ∧ RdG w p.h.y p.r.t
theorem RdT.ext {w w' : World} {p : TP} (h : RdT w p) (e : Ext w w') : RdT w' p := ⟨h.1.ext e, h.2.ext e⟩
theorem RdT.row {w : World} {p : TP} (h : RdT w p) : RdRow w p.row := h
def RdTs (w : World) (ps : List TP) : Prop := ∀ p ∈ ps, RdT w p
theorem RdTs.ext {w w' : World} {ps : List TP} (h : RdTs w ps) (e : Ext w w') : RdTs w' ps := fun p hp => (h p hp).ext e
def tus (ps : List TP) : List Tu := ps.map TP.tu
theorem tus_len (ps : List TP) : (tus ps).length = ps.length := List.length_map _
theorem tus_at (ps : List TP) (i : Nat) (h : i < ps.length) : (tus ps)[i]'(by rw [tus_len]; exact h) = ps[i].tu := by simp [tus]
theorem tus_app (a b : List TP) : tus (a ++ b) = tus a ++ tus b := List.map_append
theorem tus_take (a : List TP) (k : Nat) : tus (a.take k) = (tus a).take k := List.map_take
theorem tus_drop (a : List TP) (k : Nat) : tus (a.drop k) = (tus a).drop k := List.map_drop
theorem box4 (w : World) (a b c d : Value) (t : TypeId) : (w.alloc (.cells #[a, b, c, d] t)).cell? ⟨w.heap.size, 0, none⟩ = some a ∧ (w.alloc (.cells #[a, b, c, d] t)).cell? ⟨w.heap.size, 1, none⟩ = some b ∧ (w.alloc (.cells #[a, b, c, d] t)).cell? ⟨w.heap.size, 2, none⟩ = some c ∧ (w.alloc (.cells #[a, b, c, d] t)).cell? ⟨w.heap.size, 3, none⟩ = some d :=
  ⟨al_c w _ t 0 _ rfl, al_c w _ t 1 _ rfl, al_c w _ t 2 _ rfl, al_c w _ t 3 _ rfl⟩
set_option maxHeartbeats 1000000 in
theorem rowOf_gw (p : TP) (w : World) : Calls Try.prog 19 #[tv p] w fun e w' => e = .returned (.agg #[p.h.x, p.h.y]) ∧ Gw w w' := by
  obtain ⟨⟨xa, xn, xc, xb, xm, xd⟩, xr, pa, pb⟩ := p
  go_enter Try.func19, Try.ntmps19
  go_wp2_with fail
  exact bodyPost_ret (v := .agg #[.slice xa xn xc, .slice xb xm xd]) (by simp [results, Try.results19, go_sem]) rfl ⟨rfl, gw2 _ _ _⟩
set_option maxHeartbeats 1000000 in
theorem row_ref (p : TP) (w : World) : Calls Try.prog 16 #[tv p] w fun e w' => e = .returned (.agg #[p.h.x, p.h.y]) ∧ Gw w w' := by
  obtain ⟨⟨xa, xn, xc, xb, xm, xd⟩, xr, pa, pb⟩ := p
  go_enter Try.func16, Try.ntmps16
  go_wp2_with fail
  exact bodyPost_ret (v := .agg #[.slice xa xn xc, .slice xb xm xd]) (by simp [results, Try.results16, go_sem]) rfl ⟨rfl, gw2 _ _ _⟩
end Go.Proofs.Ytnckdopphimgoaa
/- Equal rows of tuples. -/
namespace Go.Proofs.Ytnckdopphimgoaa
open Go.ChangeShapes Go.WideShapes Go.ChangeAt Go.RowKit

def tuB (a b : List Tu) : Bool := decide (a = b)
theorem tu_no {a b : List Tu} {k : Nat} (ha : k < a.length) (hb : k < b.length) (h : a[k] ≠ b[k]) : tuB a b = false := by
  unfold tuB
  simp only [decide_eq_false_iff_not]
  intro e
  subst e
  exact h rfl
theorem tuB_next {a b : List Tu} {k : Nat} (ha : k < a.length) (hb : k < b.length) (e : a.take k = b.take k) (h : a[k] = b[k]) : a.take (k + 1) = b.take (k + 1) := by
  rw [List.take_succ_eq_append_getElem ha, List.take_succ_eq_append_getElem hb, e, h]
theorem tu_len {a b : List Tu} (h : a.length ≠ b.length) : tuB a b = false := by
  unfold tuB
  simp only [decide_eq_false_iff_not]
  intro e
  subst e
  exact h rfl
theorem tu_end {a b : List Tu} {k : Nat} (ha : a.length ≤ k) (hb : b.length ≤ k) (e : a.take k = b.take k) : tuB a b = true := by
  rw [List.take_of_length_le ha, List.take_of_length_le hb] at e
  unfold tuB; simpa using e
def EqfR (w : World) (a b : List Tu) (i : Value) (wr : World) : Prop := ∃ k : Nat, k ≤ a.length ∧ i = .int .i64 k ∧ Hid (a.take k = b.take k) ∧ Ext w wr
/-- whether the same rows hold everywhere -/
def EqvP (a b : List Tu) : Prop := ∀ r t, ats a r t = ats b r t
end Go.Proofs.Ytnckdopphimgoaa
