/- Rows of values with their lineage: how they lie, and slices of them. -/
import Derived.Test.YtohpmbabegpefaaCg
import Derived.Test.YtohpmbabegpefaaLit
namespace Go.Proofs.Ytohpmbabegpefaa
open Go.ChangeShapes Go.WideShapes Go.ChangeAt Go.RowKit

/-- two slice headers -/
structure Hd where
  a : Option Addr
  n : Nat
  c : Nat
  b : Option Addr
  m : Nat
  d : Nat
abbrev Hd.x (h : Hd) : Value := .slice h.a h.n h.c
abbrev Hd.y (h : Hd) : Value := .slice h.b h.m h.d
/-- a row: how it lies, and what it is -/
structure P where
  h : Hd
  r : R
instance : Inhabited P := ⟨⟨⟨none, 0, 0, none, 0, 0⟩, ⟨[], []⟩⟩⟩
instance : Enc P := ⟨2, by decide, fun p => [p.h.x, p.h.y], fun _ => rfl, fun a u h => by simp at h; rcases h with rfl | rfl <;> rfl⟩
def tP : RowT P := ⟨32, 22, default, .agg #[.slice none 0 0, .slice none 0 0], 48, Try.underlying22, by kernel_rfl, by rfl, by decide⟩
theorem rd_P {w : World} {ad : Option Addr} {n cap : Nat} {l : List P} (h : RdG w (.slice ad n cap) l) (i : Nat) (hi : i < l.length) : ∃ g o, ad = some ⟨g, o, none⟩ ∧ w.cell? ⟨g, o + i * 2, none⟩ = some l[i].h.x ∧ w.cell? ⟨g, o + i * 2 + 1, none⟩ = some l[i].h.y := by
  obtain ⟨g, o, e, c⟩ := h.at i hi
  exact ⟨g, o, e, c 0 _ rfl, c 1 _ rfl⟩
/-- what the headers reach -/
def RdRow (w : World) (p : P) : Prop := RdG w p.h.x p.r.v ∧ RdG w p.h.y p.r.t
theorem RdRow.ext {w w' : World} {p : P} (h : RdRow w p) (e : Ext w w') : RdRow w' p := ⟨h.1.ext e, h.2.ext e⟩
def RdAll (w : World) (ps : List P) : Prop := ∀ p ∈ ps, RdRow w p
theorem RdAll.ext {w w' : World} {ps : List P} (h : RdAll w ps) (e : Ext w w') : RdAll w' ps := fun p hp => (h p hp).ext e
def rows (ps : List P) : List R := ps.map P.r
theorem rows_len (ps : List P) : (rows ps).length = ps.length := List.length_map _
theorem rows_at (ps : List P) (i : Nat) (h : i < ps.length) : (rows ps)[i]'(by rw [rows_len]; exact h) = ps[i].r := by simp [rows]
theorem rows_app (a b : List P) : rows (a ++ b) = rows a ++ rows b := List.map_append
theorem rows_take (a : List P) (k : Nat) : rows (a.take k) = (rows a).take k := List.map_take
theorem rows_drop (a : List P) (k : Nat) : rows (a.drop k) = (rows a).drop k := List.map_drop
theorem RdG.drop {α : Type} [Enc α] {w : World} {g o n cap i : Nat} {l : List α} (h : RdG w (.slice (some ⟨g, o, none⟩) n cap) l) (hi : i ≤ n) : RdG w (.slice (some ⟨g, o + i * Enc.sz α, none⟩) (n - i) (cap - i)) (l.drop i) := by
  obtain ⟨ad', cap', e, h1, h2, h3, h4⟩ := h
  simp only [Value.slice.injEq] at e
  obtain ⟨rfl, rfl, rfl⟩ := e
  refine ⟨_, cap - i, by rw [List.length_drop], by rw [List.length_drop]; omega, by omega, (fun h => by cases h), fun j hj => ?_⟩
  rw [List.length_drop] at hj
  obtain ⟨g', o', e, c⟩ := h4 (i + j) (by omega)
  simp only [Option.some.injEq, Addr.mk.injEq, and_true] at e
  obtain ⟨rfl, rfl⟩ := e
  refine ⟨_, _, rfl, fun k u hu => ?_⟩
  rw [List.getElem_drop] at hu
  have := c k u hu
  rw [← this]
  congr 2
  rw [Nat.add_mul]; omega
/-- two bags that a call hands back -/
def DP (w : World) (l g : List R) (e : Ending) (w' : World) : Prop := ∃ v1 v2 os ot, e = .returned (.tuple #[v1, v2]) ∧ (RdG w' v1 os ∧ RdAll w' os ∧ rows os = l) ∧ (RdG w' v2 ot ∧ RdAll w' ot ∧ rows ot = g) ∧ Ext w w'
/-- an empty slice that the code writes out -/
theorem own_lit0 {α : Type} [Enc α] (e : TypeId) {W X : World} (h : Ext W X) (n : Nat) (hn : n = X.heap.size) : OwnG e W (X.alloc (.cells #[] e)) (.slice (some ⟨n, 0, none⟩) 0 0) ([] : List α) := by
  subst hn
  exact ⟨World.ownsRow_lit X #[] 0 h.2.2 (Nat.zero_le _) (by simp), h.alloc _ _⟩
set_option maxHeartbeats 1000000 in
theorem comp_gw (x y : R) (va ta vb tb : Value) (w : World) (hva : RdG w va x.v) (hta : RdG w ta x.t) (hvb : RdG w vb y.v) (htb : RdG w tb y.t) :
    Calls Try.prog 29 #[.agg #[va, ta], .agg #[vb, tb]] w fun e w' => e = .returned (.int .i64 (cmpW x y)) ∧ Gw w w' := by
  obtain ⟨a1, c1, rfl, _, _⟩ := hva.shape
  obtain ⟨a2, c2, rfl, _, _⟩ := hta.shape
  obtain ⟨a3, c3, rfl, _, _⟩ := hvb.shape
  obtain ⟨a4, c4, rfl, _, _⟩ := htb.shape
  have H1 := Lib.hid hva
  have H2 := Lib.hid hta
  have H3 := Lib.hid hvb
  have H4 := Lib.hid htb
  have hlen1 := x.v.length
  clear hva hta hvb htb
  obtain ⟨n1, e1⟩ : ∃ n, n = x.v.length := ⟨_, rfl⟩
  obtain ⟨n2, e2⟩ : ∃ n, n = x.t.length := ⟨_, rfl⟩
  obtain ⟨n3, e3⟩ : ∃ n, n = y.v.length := ⟨_, rfl⟩
  obtain ⟨n4, e4⟩ : ∃ n, n = y.t.length := ⟨_, rfl⟩
  rw [← e1] at H1 ⊢
  rw [← e2] at H2 ⊢
  rw [← e3] at H3 ⊢
  rw [← e4] at H4 ⊢
  clear e1 e2 e3 e4
  by_cases hz : cmpR x.v y.v = 0
  · have HR := Lib.hid (show cmpW x y = cmpN x.t y.t by unfold cmpW; rw [if_pos hz])
    have hcr := crows_gw x.v y.v
    rw [hz] at hcr
    have HC := Lib.hid hcr
    clear hcr hz
    go_enter Try.func29, Try.ntmps29
    go_wp2_with fail
    refine (HC.out _ _ _ (H1.out.ext (gw2 _ _ _).ext) (H3.out.ext (gw2 _ _ _).ext)).mono ?_; rintro e w1 ⟨rfl, hg⟩
    have hgw := Lib.hid ((gw2 w (.cells #[.slice a1 n1 c1, .slice a2 n2 c2] 32) (.cells #[.slice a3 n3 c3, .slice a4 n4 c4] 32)).trans hg)
    have k1 := hg.ext.keeps (((Ext.refl _).alloc _ _).keeps (al1 w (.slice a1 n1 c1) (.slice a2 n2 c2) 32))
    have k2 := hg.ext.keeps (al1 (w.alloc (.cells #[.slice a1 n1 c1, .slice a2 n2 c2] 32)) (.slice a3 n3 c3) (.slice a4 n4 c4) 32)
    rw [alsz] at k2
    have s1 : w.heap.size < w1.heap.size := World.block_lt_of_cell? _ _ k1
    have s2 : w.heap.size + 1 < w1.heap.size := World.block_lt_of_cell? _ _ k2
    clear hg
    go_wp2_with fail
    refine (cfn_gw x.t y.t _ _ _ (H2.out.ext hgw.out.ext) (H4.out.ext hgw.out.ext)).mono ?_; rintro e w2 ⟨rfl, hg2⟩
    go_wp2_with fail
    go_ret
    exact ⟨ret_int HR.out.symm, hgw.out.trans hg2⟩
  · have HR := Lib.hid (show cmpW x y = cmpR x.v y.v by unfold cmpW; rw [if_neg hz])
    have hz1 : (cmpR x.v y.v == 0) = false := by simpa using hz
    go_enter Try.func29, Try.ntmps29
    go_wp2_with fail
    refine (crows_gw x.v y.v _ _ _ (H1.out.ext (gw2 _ _ _).ext) (H3.out.ext (gw2 _ _ _).ext)).mono ?_; rintro e w1 ⟨rfl, hg⟩
    go_wp2_with fail
    go_ret
    exact ⟨ret_int HR.out.symm, (gw2 _ _ _).trans hg⟩
end Go.Proofs.Ytohpmbabegpefaa
