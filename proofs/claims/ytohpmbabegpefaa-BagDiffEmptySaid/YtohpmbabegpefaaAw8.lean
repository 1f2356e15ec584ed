/- awake: what all laws on bags begin with. -/
import Derived.Test.YtohpmbabegpefaaMg8
import Derived.Test.YtohpmbabegpefaaEq8
import Derived.Test.YtohpmbabegpefaaDf8
import Derived.Test.YtohpmbabegpefaaSam
namespace Go.Proofs.Ytohpmbabegpefaa
open Go.ChangeShapes Go.WideShapes Go.ChangeAt Go.RowKit

def r1 : R := ⟨[nul], [2]⟩
def r2 : R := ⟨[nul], [1]⟩
theorem sort_aw : sortR [r1, r2] = [r2, r1] := (sortR_of (List.Perm.swap _ _ _) (by
  refine List.pairwise_cons.2 ⟨fun x hx => ?_, List.pairwise_singleton _ _⟩
  obtain rfl := List.mem_singleton.1 hx
  decide)).symm
theorem sort_aw1 : sortR [r1] = [r1] := sortR_self (List.pairwise_singleton _ _)
theorem lost_aw : sur (cnt [r1]) (sortR [r1, r2]) = [r1] := by rw [sort_aw]; decide
theorem gained_aw : sur (cnt [r1, r2]) (sortR [r1]) = [] := by rw [sort_aw1]; decide
theorem asc3 : Asc [1, 2, 3] := by unfold Asc; decide
theorem al_E (w : World) (c : Array Value) (t : TypeId) : Ext w (w.alloc (.cells c t)) := (Ext.refl w).alloc _ _
abbrev aw5 (w1 : World) : World := ((((w1.alloc (.cells #[.int .i64 0, .int .i64 0, .string { data := #[] }] 43)).alloc (.cells #[.int .i64 2] 3)).alloc (.cells #[.int .i64 0, .int .i64 0, .string { data := #[] }] 43)).alloc (.cells #[.int .i64 1] 3)).alloc
  (.cells #[.slice (some ⟨w1.heap.size, 0, none⟩) 1 1, .slice (some ⟨w1.heap.size + 1, 0, none⟩) 1 1, .slice (some ⟨w1.heap.size + 1 + 1, 0, none⟩) 1 1, .slice (some ⟨w1.heap.size + 1 + 1 + 1, 0, none⟩) 1 1] 32)
def awP (n : Nat) : List P := [⟨⟨some ⟨n, 0, none⟩, 1, 1, some ⟨n + 1, 0, none⟩, 1, 1⟩, r1⟩, ⟨⟨some ⟨n + 1 + 1, 0, none⟩, 1, 1, some ⟨n + 1 + 1 + 1, 0, none⟩, 1, 1⟩, r2⟩]
theorem aw_rd (w1 : World) : RdG (aw5 w1) (.slice (some ⟨w1.heap.size + 1 + 1 + 1 + 1, 0, none⟩) 2 2) (awP w1.heap.size) := rd_litG _ _ _ _ _ 2 (by simp) rfl (by simp [awP]) rfl
theorem aw_ext (w1 : World) : Ext w1 (aw5 w1) := ((((al_E _ _ _).trans (al_E _ _ _)).trans (al_E _ _ _)).trans (al_E _ _ _)).trans (al_E _ _ _)
theorem aw_all (w1 : World) : RdAll (aw5 w1) (awP w1.heap.size) := by
  intro p hp
  simp only [awP, List.mem_cons, List.not_mem_nil, or_false] at hp
  rcases hp with rfl | rfl
  · refine ⟨(rd_litG w1 [nul] #[.int .i64 0, .int .i64 0, .string { data := #[] }] 43 _ 1 rfl rfl (by simp) rfl).ext ((((al_E _ _ _).trans (al_E _ _ _)).trans (al_E _ _ _)).trans (al_E _ _ _)), ?_⟩
    exact (rd_litG _ [2] #[.int .i64 2] 3 _ 1 (by simp) rfl (by simp) rfl).ext (((al_E _ _ _).trans (al_E _ _ _)).trans (al_E _ _ _))
  · refine ⟨(rd_litG _ [nul] #[.int .i64 0, .int .i64 0, .string { data := #[] }] 43 _ 1 (by simp) rfl (by simp) rfl).ext ((al_E _ _ _).trans (al_E _ _ _)), ?_⟩
    exact (rd_litG _ [1] #[.int .i64 1] 3 _ 1 (by simp) rfl (by simp) rfl).ext (al_E _ _ _)
theorem aw_small (n : Nat) : Small (awP n) := by
  intro p hp
  simp only [awP, List.mem_cons, List.not_mem_nil, or_false] at hp
  rcases hp with rfl | rfl <;> simp [r1, r2]
set_option maxHeartbeats 8000000 in
set_option maxRecDepth 100000 in
theorem awake_law (w : World) : Calls Try.prog 10 #[] w fun e w' => e = .returned (.bool true) ∧ Ext w w' := by
  go_enter Try.func10, Try.ntmps10
  go_wp2_with fail
  refine (ml_prg [3, 1] [2, 3] _ _ _ ((rd_litG w [3, 1] #[.int .i64 3, .int .i64 1] 3 _ 2 rfl rfl (by simp) rfl).ext (al_E _ _ _)) (rd_litG _ [2, 3] #[.int .i64 2, .int .i64 3] 3 _ 2 (by simp) rfl (by simp) rfl) (by simp)).mono ?_
  rintro e w1 ⟨v1, cs, rfl, hR, hE, hA, hM, hL⟩
  obtain rfl : cs = [1, 2, 3] := asc_unique _ _ hA asc3 (fun c => by rw [hM]; simp; omega)
  have E1 : Ext w w1 := (Ext.trans (al_E _ _ _) (al_E _ _ _)).trans hE
  clear hA hM hE hL
  obtain ⟨a1, c1, rfl, _, _⟩ := hR.shape
  have HR := Lib.hid hR
  have HE1 := Lib.hid E1
  clear hR E1
  go_wp2_with fail
  refine (diff_prg (awP w1.heap.size) ((awP w1.heap.size).take 1) _ _ (aw5 w1) (aw_rd w1) ((aw_rd w1).take 1 (by simp [awP])) (aw_all w1) (fun p hp => aw_all w1 p (List.mem_of_mem_take hp)) (by simp [awP]) (by simp [awP]) (aw_small _) (fun p hp => aw_small _ p (List.mem_of_mem_take hp))).mono ?_
  rintro e w2 ⟨v3, v4, os, ot, rfl, ⟨p1, p2, p3⟩, ⟨q1, q2, q3⟩, hE2⟩
  have p4 : rows os = [r1] := p3.trans lost_aw
  have q4 : rows ot = [] := q3.trans gained_aw
  obtain ⟨x, rfl⟩ : ∃ x, os = [x] := by
    cases os with
    | nil => cases p4
    | cons x l => cases l with
      | nil => exact ⟨x, rfl⟩
      | cons y l => simp [rows] at p4
  obtain rfl : ot = [] := by cases ot with
    | nil => rfl
    | cons y l => cases q4
  have hx : x.r = r1 := by simpa [rows] using p4
  obtain ⟨a3, c3, rfl, b3, b4⟩ := p1.shape
  obtain ⟨a4, c4, rfl, _, _⟩ := q1.shape
  obtain ⟨g, o, rfl, k0, k1⟩ := rd_P p1 0 (by simp)
  have hxr := p2 x (by simp)
  obtain ⟨⟨xa, xn, xc, xb, xm, xd⟩, xr⟩ := x
  simp only at hx
  subst hx
  have hy := hxr.2
  simp only [Hd.y] at hy
  have hm : xm = 1 := hy.len.1
  subst hm
  obtain ⟨g5, o5, rfl, l0⟩ := rd_I hy 0 (by simp [r1])
  have l0' : w2.cell? ⟨g5, o5, none⟩ = some (.int .i64 2) := by simpa [r1] using l0
  simp only [Nat.zero_mul, Nat.add_zero, List.getElem_cons_zero, Hd.x, Hd.y] at k0 k1
  have hA2 := (aw_rd w1).ext hE2
  have hI2 : RdAll w2 (awP w1.heap.size) := fun p hp => (aw_all w1 p hp).ext hE2
  have HA2 := Lib.hid hA2
  have HI2 := Lib.hid hI2
  have HW2 := Lib.hid (HE1.out.trans ((aw_ext w1).trans hE2))
  have HR2 := Lib.hid (HR.out.ext ((aw_ext w1).trans hE2))
  have K0 := Lib.hid k0
  have K1 := Lib.hid k1
  have L0 := Lib.hid l0'
  simp only [List.length_cons, List.length_nil] at *
  clear p1 p2 p3 q1 q2 q3 hE2 p4 q4 hxr hy l0 l0' k0 k1 hA2 hI2 HR
  go_wp2_with fail
  refine (same_ints [1, 2, 3] _ _ _ (HR2.out.ext (al_E _ _ _)) (rd_litG w2 [1, 2, 3] #[.int .i64 1, .int .i64 2, .int .i64 3] 3 _ 3 rfl rfl (by simp) rfl)).mono ?_
  rintro e w3 ⟨rfl, hE3⟩
  have hE3' : Ext w2 w3 := (al_E _ _ _).trans hE3
  have m0 := hE3'.keeps K0.out
  have m1 := hE3'.keeps K1.out
  have m2 := hE3'.keeps L0.out
  have HE3 := Lib.hid hE3'
  clear hE3 hE3'
  go_wp2_with fail
  refine (sort_prg (awP w1.heap.size) _ w3 (HA2.out.ext HE3.out) (fun p hp => (HI2.out p hp).ext HE3.out) (by simp [awP]) (aw_small _)).mono ?_
  rintro e w4 ⟨v6, qs, rfl, s1, s2, s3, hE4⟩
  have HS1 := Lib.hid s1
  have HS2 := Lib.hid s2
  have HS3 := Lib.hid s3
  have HE4 := Lib.hid (HE3.out.trans hE4)
  have HQL := Lib.hid (show qs.length ≤ 1000000 by
    have := congrArg List.length s3
    rw [rows_len, sortR_len, rows_len] at this
    rw [this]; simp [awP])
  clear s1 s2 s3 hE4
  go_wp2_with fail
  refine (equal_prg (awP w1.heap.size) qs _ _ w4 (HA2.out.ext HE4.out) HS1.out (fun p hp => (HI2.out p hp).ext HE4.out) HS2.out (by simp [awP]) HQL.out).mono ?_
  rintro e w5 ⟨rfl, hE5⟩
  have he : eqB (rows (awP w1.heap.size)) (rows qs) = true := by
    unfold eqB
    rw [HS3.out, sortR_self (sortR_srtd _)]; simp
  rw [he]
  have HE5 := Lib.hid (HE4.out.trans hE5)
  have hA5 := HA2.out.ext HE5.out
  obtain ⟨g6, o6, he6, n0, _⟩ := rd_P hA5 0 (by simp [awP])
  injection he6 with he6
  injection he6 with he7 he8
  subst he7 he8
  simp only [Nat.zero_mul, Nat.add_zero, awP, List.getElem_cons_zero, Hd.x] at n0
  clear hE5 he hA5
  go_wp2_with fail
  refine (mult_prg (awP w1.heap.size) [nul] _ _ w5 (HA2.out.ext HE5.out) (fun p hp => (HI2.out p hp).ext HE5.out) ((HI2.out _ (List.mem_cons_self ..)).1.ext HE5.out)).mono ?_
  rintro e w6 ⟨rfl, hE6⟩
  have hc : (cnt (rows (awP w1.heap.size)) [nul] : Int) = 2 := by
    have : cnt (rows (awP w1.heap.size)) [nul] = 2 := rfl
    rw [this]; rfl
  rw [hc]
  go_wp2_with fail
  go_ret
  exact ⟨rfl, HW2.out.trans (HE5.out.trans hE6)⟩
end Go.Proofs.Ytohpmbabegpefaa
