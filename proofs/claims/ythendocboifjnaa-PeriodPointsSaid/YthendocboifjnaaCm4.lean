/- The contract of the reference's SameInts at equal rows; the laws' check of fixed periods. -/
import Derived.Test.YthendocboifjnaaCm2
import Derived.Test.YthendocboifjnaaPr4
import Derived.Deep.QuietTactic
import Derived.BigQuiet
namespace Go.Proofs.Ythendocboifjnaa
open Go.ChangeShapes Go.WideShapes Go.ChangeAt Go.RowKit

theorem cellsI_at (l : List Int) (i : Nat) (h : i < l.length) : (cellsI l)[i]? = some (.int .i64 l[i]) := by simp [cellsI, h]
/-- a row of ints, as a reader sees it -/
theorem owns_shapeI {w : World} {base : Nat} {e : TypeId} {v : Value} {l : List Int} (ho : w.ownsRow base e 1 v l.length (cellsI l)) :
    ∃ ad cap, v = .slice ad l.length cap ∧ l.length ≤ maxLen ∧ ∀ (i : Nat) (h : i < l.length), ∃ g, ad = some ⟨g, 0, none⟩ ∧ w.cell? ⟨g, i, none⟩ = some (.int .i64 l[i]) := by
  rcases ho.2 with ⟨rfl, hn⟩ | ⟨g, cap, cur, rfl, hb, hg, hc, hm, hs, ht⟩
  · exact ⟨none, 0, by rw [hn], by rw [hn]; exact Nat.zero_le _, fun i h => by omega⟩
  · refine ⟨some ⟨g, 0, none⟩, cap, rfl, Nat.le_trans hc hm, fun i h => ⟨g, rfl, ?_⟩⟩
    rw [ho.cellAt i (by omega)]; exact cellsI_at l i h
theorem grown_drewN' {w w' : World} (h : Grown w w') (n : Nat) : Grown w (w'.drewN n) := h
theorem Ext.drewN {w w' : World} (h : Ext w w') (n : Nat) : Ext w (w'.drewN n) := h

theorem gE {N : Nat} {args : Array Value} {w : World} {R : Ending} (h : Calls Try.prog N args w fun e w' => e = R ∧ Grown w w') : Calls Try.prog N args w fun e w' => e = R ∧ Ext w w' :=
  h.mono fun _ _ ⟨he, hg⟩ => ⟨he, ext_of_grown hg⟩
theorem sE {N : Nat} {args : Array Value} {w : World} {R : Ending} (h : Calls Try.prog N args w fun e w' => e = R ∧ w = w') : Calls Try.prog N args w fun e w' => e = R ∧ Ext w w' :=
  h.mono fun _ _ ⟨he, hg⟩ => ⟨he, by rw [← hg]; exact Ext.refl _⟩

theorem comp22 : compL 2 2 = [1] := by decide +kernel
theorem comp_fix (w : World) : Calls Try.prog 22 #[.int .i64 2, .int .i64 2] w (IntsPost [1] w) := by
  have := comp_per 2 2 w; rwa [comp22] at this

set_option maxHeartbeats 4000000 in
theorem awake_law (w : World) : Calls Try.prog 10 #[] w fun e w' => e = .returned (.bool true) ∧ Ext w w' := by
  go_enter Try.func10, Try.ntmps10
  go_wp2_with fail
  refine (pis_at_yes 0 5 3 9 3 5 _ (by decide) (by decide) (by decide)).mono ?_; rintro e w1 ⟨rfl, hg⟩
  obtain ⟨k0, k1, k2, k3⟩ := boxes hg (Grown.refl _)
  have hE : Ext w w1 := (((Ext.refl _).alloc _ _).alloc _ _).trans (ext_of_grown hg)
  clear hg
  go_wp2_with fail
  refine (comp_fix _).mono ?_; rintro e w2 ⟨v, rfl, ho, hE2⟩
  obtain ⟨g, cap, rfl, _, _⟩ := ho.form (by decide)
  have c0 : w2.cell? ⟨g, 0, none⟩ = some (.int .i64 1) := by rw [ho.cellAt 0 (by decide)]; rfl
  obtain ⟨hcap, hcm⟩ := cap_of ho
  have m0 := hE2.keeps (kept ((Grown.refl _).alloc _ _) k0)
  have m1 := hE2.keeps (kept ((Grown.refl _).alloc _ _) k1)
  have m2 := hE2.keeps (kept ((Grown.refl _).alloc _ _) k2)
  have m3 := hE2.keeps (kept ((Grown.refl _).alloc _ _) k3)
  have m4 := hE2.keeps (al0 w1 _ _ _)
  have m5 := hE2.keeps (al1 w1 _ _ _)
  have hE3 : Ext w w2 := (hE.alloc _ _).trans hE2
  unfold maxLen at hcm
  clear k0 k1 k2 k3 ho hE2 hE
  go_wp2_with fail
  refine (relp_at 0 5 3 9 3 _ (by decide)).mono ?_; rintro e w3 ⟨rfl, hg3⟩
  have n0 := kept hg3 m0
  have n1 := kept hg3 m1
  have n4 := kept hg3 m4
  have n5 := kept hg3 m5
  have d0 := kept hg3 c0
  have hE4 := hE3.trans (ext_of_grown hg3)
  clear m0 m1 m2 m3 m4 m5 c0 hg3 hE3
  go_wp2_with fail
  refine (inv_at 3 11 _ (by decide)).mono ?_; rintro e w4 ⟨rfl, rfl⟩
  go_wp2_with fail
  refine (vd_per _ _ _).mono ?_; rintro e w5 ⟨rfl, hg5⟩
  have p0 := kept hg5 n0
  have p1 := kept hg5 n1
  have hE5 := hE4.trans (ext_of_grown hg5)
  rw [show okD 0 5 = true by decide]
  clear n0 n1 n4 n5 d0 hg5 hE4
  go_wp2_with fail
  refine (vpp_yes _ _ _ (by decide)).mono ?_; rintro e w6 ⟨rfl, hg6⟩
  go_wp2_with fail
  go_ret
  exact ⟨rfl, hE5.trans (ext_of_grown hg6)⟩
end Go.Proofs.Ythendocboifjnaa
