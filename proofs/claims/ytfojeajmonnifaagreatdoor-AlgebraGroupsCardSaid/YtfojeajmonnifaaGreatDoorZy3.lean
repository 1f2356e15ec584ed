/- The laws' builders of periods and tuples. -/
import Derived.Test.YtfojeajmonnifaaGreatDoorZz42
import Derived.Test.YtfojeajmonnifaaGreatDoorZz43
import Derived.Test.YtfojeajmonnifaaGreatDoorZz05
import Derived.Test.YtfojeajmonnifaaGreatDoorZz06
namespace Go.Proofs.YtfojeajmonnifaaGreatDoor
open Go.ChangeShapes Go.WideShapes Go.ChangeAt Go.RowKit

set_option maxHeartbeats 4000000 in
theorem period_law (x y : Int) (h0 : 0 ≤ x) (_h1 : x ≤ 65535) (k0 : 0 ≤ y) (_k1 : y ≤ 65535) (w : World) : Calls Tryz.prog 112 #[.int .u16 x, .int .u16 y] w (BpP w) := by
  obtain ⟨f, hf⟩ : ∃ m, m = x % 40 := ⟨_, rfl⟩
  obtain ⟨m, hm⟩ : ∃ m, m = y % 11 := ⟨_, rfl⟩
  obtain ⟨d, hd⟩ : ∃ m, m = y % 15 := ⟨_, rfl⟩
  have hf1 : Int.tmod x 40 = f := by rw [Int.tmod_eq_emod_of_nonneg h0]; exact hf.symm
  have hm1 : Int.tmod y 11 = m := by rw [Int.tmod_eq_emod_of_nonneg k0]; exact hm.symm
  have hd1 : Int.tmod y 15 = d := by rw [Int.tmod_eq_emod_of_nonneg k0]; exact hd.symm
  have hf2 := hf.symm
  have hm2 := hm.symm
  have hd2 := hd.symm
  have hfb : 0 ≤ f ∧ f ≤ 39 := by omega
  have hmb : 0 ≤ m ∧ m ≤ 10 := by omega
  have hdb : 0 ≤ d ∧ d ≤ 14 := by omega
  have wf1 := wrapU f (by omega) (by omega)
  have wm1 := wrapU m (by omega) (by omega)
  have wd1 := wrapU d (by omega) (by omega)
  have wf2 := wrapI f (by omega) (by omega)
  have wd2 := wrapI d (by omega) (by omega)
  have wf3 := wrapI (f + 1) (by omega) (by omega)
  have wf4 := wrapI (f + 1 + d) (by omega) (by omega)
  clear hf hm hd
  by_cases hz : m = 0
  · subst hz
    go_enter Tryz.func112, Tryz.ntmps112
    go_wp2_with fail
    all_goals
      exact bodyPost_ret (v := pv f 1000000) (by simp [results, Tryz.results112, go_sem]) rfl ⟨_, _, rfl, by repeat (first | exact Ext.refl _ | refine Ext.alloc ?_ _ _ | refine Ext.setNew ?_ _ _ (by simp; try omega) _)⟩
  · have hz1 : (m == 0) = false := by simpa using hz
    go_enter Tryz.func112, Tryz.ntmps112
    go_wp2_with fail
    all_goals
      exact bodyPost_ret (v := pv f (f + 1 + d)) (by simp [results, Tryz.results112, go_sem]) rfl ⟨_, _, rfl, by repeat (first | exact Ext.refl _ | refine Ext.alloc ?_ _ _ | refine Ext.setNew ?_ _ _ (by simp; try omega) _)⟩
/-- tuples: how they lie, and what they are -/
structure Tp where
  h : Hd
  a : Int
  b : Int
  r : R
instance : Inhabited Tp := ⟨⟨⟨none, 0, 0, none, 0, 0⟩, 0, 0, ⟨[], []⟩⟩⟩
instance : Enc Tp := ⟨4, by decide, fun p => [p.h.x, .int .i64 p.a, .int .i64 p.b, p.h.y], fun _ => rfl, fun a u h => by simp at h; rcases h with rfl | rfl | rfl | rfl <;> rfl⟩
def tT : RowT Tp := ⟨113, 108, default, .agg #[.slice none 0 0, .int .i64 0, .int .i64 0, .slice none 0 0], 64, Tryz.underlying108, by kernel_rfl, by rfl, by decide⟩
theorem rd_T {w : World} {ad : Option Addr} {n cap : Nat} {l : List Tp} (h : RdG w (.slice ad n cap) l) (i : Nat) (hi : i < l.length) : ∃ g o, ad = some ⟨g, o, none⟩ ∧ w.cell? ⟨g, o + i * 4, none⟩ = some l[i].h.x ∧ w.cell? ⟨g, o + i * 4 + 1, none⟩ = some (.int .i64 l[i].a) ∧ w.cell? ⟨g, o + i * 4 + 2, none⟩ = some (.int .i64 l[i].b) ∧ w.cell? ⟨g, o + i * 4 + 3, none⟩ = some l[i].h.y := by
  obtain ⟨g, o, e, c⟩ := h.at i hi
  exact ⟨g, o, e, c 0 _ rfl, c 1 _ rfl, c 2 _ rfl, c 3 _ rfl⟩
/-- some tuple, its parts the call's own -/
def BtP (w : World) (e : Ending) (w' : World) : Prop := ∃ (v : Value) (l : List V) (v2 : Value) (l2 : List Int) (a b : Int), e = .returned (.agg #[v, .int .i64 a, .int .i64 b, v2]) ∧ OwnG tV.e w w' v l ∧ OwnG tI.e w w' v2 l2 ∧ l.length = 2 ∧ l2.length = 1 ∧ (∀ v ∈ l, SmV v) ∧ ∀ x ∈ l2, 1 ≤ x ∧ x ≤ 5
theorem grw_set (w : World) (b j : Nat) (u : Value) : Grw w (w.setCell ⟨b, j, none⟩ u) (some b) :=
  ⟨rfl, rfl, by simp [World.setCell], fun k _ hn => Below.heap_setCell _ _ _ _ (by show k ≠ b; exact fun e => hn (by rw [e]))⟩
theorem own_set {α : Type} [Enc α] {e : TypeId} {W w : World} {v : Value} {l : List α} (h : OwnG e W w v l) (b j : Nat) (u : Value) (hb : W.heap.size ≤ b) (hn : ∀ g, v.ownBlock = some g → g ≠ b) : OwnG e W (w.setCell ⟨b, j, none⟩ u) v l := by
  refine ⟨owns_grw h.1 (grw_set w b j u) ?_, h.2.setNew b j hb u⟩
  cases hv : v.ownBlock with
  | none => exact .inl rfl
  | some g => exact .inr (fun e => hn g hv (by injection e))
theorem own_set4 {α : Type} [Enc α] {e : TypeId} {W w : World} {v : Value} {l : List α} (h : OwnG e W w v l) (b : Nat) (p q r s : Value) (hb : W.heap.size ≤ b) (hn : ∀ g, v.ownBlock = some g → g ≠ b) : OwnG e W ((((w.setCell ⟨b, 0, none⟩ p).setCell ⟨b, 1, none⟩ q).setCell ⟨b, 2, none⟩ r).setCell ⟨b, 3, none⟩ s) v l :=
  own_set (own_set (own_set (own_set h b 0 p hb hn) b 1 q hb hn) b 2 r hb hn) b 3 s hb hn
theorem set4_cell {X : World} {b b' o : Nat} {p q r s v : Value} (hne : b' ≠ b) (h : X.cell? ⟨b', o, none⟩ = some v) : ((((X.setCell ⟨b, 0, none⟩ p).setCell ⟨b, 1, none⟩ q).setCell ⟨b, 2, none⟩ r).setCell ⟨b, 3, none⟩ s).cell? ⟨b', o, none⟩ = some v := by
  have hk : ∀ (Y : World) (j : Nat) (u : Value), (Y.setCell ⟨b, j, none⟩ u).cell? ⟨b', o, none⟩ = Y.cell? ⟨b', o, none⟩ := fun Y j u => World.cell?_of_block (Below.heap_setCell _ _ _ _ (by show b' ≠ b; exact hne))
  rw [hk, hk, hk, hk]; exact h
theorem own_ne {α : Type} [Enc α] {e : TypeId} {W w : World} {v : Value} {l : List α} (h : OwnG e W w v l) (b : Nat) (hb : b < W.heap.size) : ∀ g, v.ownBlock = some g → g ≠ b := fun g hg e => by
  have := (h.blk g hg).1; omega
end Go.Proofs.YtfojeajmonnifaaGreatDoor
