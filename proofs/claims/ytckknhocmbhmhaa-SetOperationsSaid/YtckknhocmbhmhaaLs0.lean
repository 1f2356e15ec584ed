/- awake and few of the laws of layer 5; equal sets. -/
import Derived.Test.YtckknhocmbhmhaaSrt2
import Derived.Test.YtckknhocmbhmhaaSn1
namespace Go.Proofs.Ytckknhocmbhmhaa
open Go.ChangeShapes Go.WideShapes Go.ChangeAt Go.RowKit

theorem same_set {l1 l2 : List (Int × Int)} {v1 v2 : Value} {w : World} (n1 : NF l1) (n2 : NF l2) (e : ∀ t, memB l1 t = memB l2 t) (r1 : Rd w v1 l1) (r2 : Rd w v2 l2) :
    Calls Try.prog 13 #[v1, v2] w fun e w' => e = .returned (.bool true) ∧ Ext w w' := by
  obtain rfl := nf_unique n1 n2 e
  exact (same_rd l1 v1 v2 w r1 r2).mono fun _ _ ⟨h, k⟩ => ⟨h, ext_of_grown k⟩
set_option maxHeartbeats 1000000 in
theorem few_yes (a b : List (Int × Int)) (va vb : Value) (w : World) (ha : Rd w va a) (hb : Rd w vb b) (la : a.length ≤ 40) (lb : b.length ≤ 40) : Calls Try.prog 9 #[va, vb] w fun e w' => e = .returned (.bool true) ∧ w = w' := by
  obtain ⟨ada, capa, rfl, _⟩ := ha
  obtain ⟨adb, capb, rfl, _⟩ := hb
  have h1 : (a.length : Int) ≤ 40 := by omega
  have h2 : (b.length : Int) ≤ 40 := by omega
  generalize a.length = n at h1 ⊢
  generalize b.length = m at h2 ⊢
  go_enter Try.func9, Try.ntmps9
  go_wp2
  go_ret
  exact ⟨ret_bool (by simp [*]), rfl⟩
set_option maxHeartbeats 1000000 in
theorem few_no (a b : List (Int × Int)) (va vb : Value) (w : World) (ha : Rd w va a) (hb : Rd w vb b) (h : ¬ (a.length ≤ 40 ∧ b.length ≤ 40)) : Calls Try.prog 9 #[va, vb] w fun e w' => e = .returned (.bool false) ∧ w = w' := by
  obtain ⟨ada, capa, rfl, _⟩ := ha
  obtain ⟨adb, capb, rfl, _⟩ := hb
  generalize a.length = n at h ⊢
  generalize b.length = m at h ⊢
  by_cases h1 : (n : Int) ≤ 40
  · have h2 : ¬ ((m : Int) ≤ 40) := by omega
    go_enter Try.func9, Try.ntmps9
    go_wp2
    go_ret
    exact ⟨ret_bool (by simp [*] <;> omega), rfl⟩
  · go_enter Try.func9, Try.ntmps9
    go_wp2
    go_ret
    exact ⟨ret_bool (by simp [*] <;> omega), rfl⟩
theorem rd_lit3 (w : World) (x0 y0 x1 y1 x2 y2 : Int) (t : TypeId) : Rd (w.alloc (.cells #[.int .i64 x0, .int .i64 y0, .int .i64 x1, .int .i64 y1, .int .i64 x2, .int .i64 y2] t)) (.slice (some ⟨w.heap.size, 0, none⟩) 3 3) [(x0, y0), (x1, y1), (x2, y2)] := by
  refine ⟨_, 3, rfl, Nat.le_refl _, (by unfold maxLen; omega), (fun h => by cases h), fun i hi => ⟨_, 0, rfl, ?_⟩⟩
  have : i = 0 ∨ i = 1 ∨ i = 2 := by simp at hi; omega
  rcases this with rfl | rfl | rfl <;> (constructor <;> (rw [World.cell?, (MapKept.heap_alloc w _).1]; rfl))
theorem awake_set {l : List (Int × Int)} (h : NF l) (e : ∀ t, memB l t = memB [(5, 9), (0, 5), (20, 30)] t) : l = [(0, 9), (20, 30)] := by
  refine nf_unique h ?_ (fun t => ?_)
  · exact NF.cons (by simp) (NF.one (by omega) (by omega) (by omega)) (by simp)
  · rw [e, Bool.eq_iff_iff]
    simp only [memB_cons, memB_nil, Bool.or_false, Bool.or_eq_true, incB_yes]
    omega
set_option maxHeartbeats 4000000 in
theorem awake_law (w : World) : Calls Try.prog 10 #[] w fun e w' => e = .returned (.bool true) ∧ Ext w w' := by
  go_enter Try.func10, Try.ntmps10
  go_wp2_with fail
  refine (norm_per _ _ _ (rd_lit3 w 5 9 0 5 20 30 30) (by simp)).mono ?_
  rintro e w1 ⟨v1, l, rfl, n1, m1, o1, e1⟩
  obtain rfl := awake_set n1 m1
  have hE : Ext w w1 := ((Ext.refl w).alloc _ _).trans e1
  have R1 := Lib.hid (rd_of_owns o1)
  obtain ⟨ad, cap, rfl, _, _, _, hx⟩ := rd_of_owns o1
  obtain ⟨g, o, rfl, c0, c1⟩ := hx 0 (by simp)
  obtain ⟨g', o', e', d0, d1⟩ := hx 1 (by simp)
  simp only [Option.some.injEq, Addr.mk.injEq, and_true] at e'
  obtain ⟨rfl, rfl⟩ := e'
  simp only [Nat.zero_mul, Nat.add_zero, Nat.one_mul, List.getElem_cons_zero, List.getElem_cons_succ] at c0 c1 d0 d1
  simp only [List.length_cons, List.length_nil, Nat.zero_add, Nat.reduceAdd] at R1 ⊢
  clear hx n1 m1 o1 e1
  go_wp2_with fail
  refine (len_per _ _ _ R1.out (by simp)).mono ?_
  rintro e w2 ⟨l2, n2, m2, rfl, e2⟩
  have hl : lenL l2 = 19 := by
    have : l2 = [(0, 9), (20, 30)] := nf_unique n2 (NF.cons (by simp) (NF.one (by omega) (by omega) (by omega)) (by simp)) m2
    rw [this]; rfl
  rw [hl]
  have R2 := Lib.hid (R1.out.ext e2)
  clear n2 m2 hl c0 c1 d0 d1
  go_wp2_with fail
  refine (isn_per _ _ _ R2.out).mono ?_
  rintro e w3 ⟨rfl, g3⟩
  rw [show nfB [(0, 9), (20, 30)] = true by decide]
  go_wp2_with fail
  refine (isn_per [(0, 0)] _ _ (rd_lit1 _ 0 0 _ _ rfl)).mono ?_
  rintro e w4 ⟨rfl, g4⟩
  rw [show nfB [(0, 0)] = false by decide]
  go_wp2_with fail
  go_ret
  exact ⟨rfl, ((hE.trans e2).trans (ext_of_grown g3)).trans (((Ext.refl _).alloc _ _).trans (ext_of_grown g4))⟩
end Go.Proofs.Ytckknhocmbhmhaa
