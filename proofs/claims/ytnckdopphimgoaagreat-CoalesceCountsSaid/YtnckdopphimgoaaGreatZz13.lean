/- The contract of the reference's insert. -/
import Derived.Deep.RegionHeld3
import Derived.Test.YtnckdopphimgoaaGreatZz09
import Derived.Test.YtnckdopphimgoaaGreatZz12
namespace Go.Proofs.YtnckdopphimgoaaGreat
open Go.ChangeShapes Go.WideShapes Go.ChangeAt Go.RowKit

theorem set_grown (w : World) (b o : Nat) (v : Value) : w.grownBy (w.setCell ⟨b, o, none⟩ v) (some b) :=
  ⟨rfl, rfl, rfl, by simp, fun k _ hk => Below.heap_setCell _ _ _ _ (by show k ≠ b; exact fun e => hk (by rw [e]))⟩
/-- a box B of the call's own that holds a period; a row of the call's own; all else «as» it was -/
def Bo (w wr : World) (B : Nat) (x y : Int) (u : Value) (l : List (Int × Int)) : Prop :=
  wr.cell? ⟨B, 0, none⟩ = some (.int .i64 x) ∧ wr.cell? ⟨B, 1, none⟩ = some (.int .i64 y) ∧ wr.frozen? ⟨B, 0, none⟩ = false ∧ wr.frozen? ⟨B, 1, none⟩ = false ∧ w.heap.size ≤ B ∧ wr.ownsRow (B + 1) 40 2 u l.length (cellsL l) ∧ Ext w wr
theorem Bo.drewN {w wr : World} {B : Nat} {x y : Int} {u : Value} {l : List (Int × Int)} (h : Bo w wr B x y u l) (n : Nat) : Bo w (wr.drewN n) B x y u l := h
theorem Bo.keep {w wr : World} {B : Nat} {x y : Int} {u : Value} {l : List (Int × Int)} (h : Bo w wr B x y u l) (o : Nat) (v : Value) : (wr.setCell ⟨B, o, none⟩ v).ownsRow (B + 1) 40 2 u l.length (cellsL l) ∧ Ext w (wr.setCell ⟨B, o, none⟩ v) := by
  obtain ⟨_, _, _, _, h4, h5, h6⟩ := h
  refine ⟨h5.kept (set_grown _ _ _ _) ?_, h6.setNew _ _ h4 _⟩
  cases hv : u.ownBlock with
  | none => exact Or.inl rfl
  | some k => right; intro e; have := (h5.lt k hv).1; cases e; omega
theorem fr_set (wr : World) (b o o' : Nat) (v : Value) : (wr.setCell ⟨b, o, none⟩ v).frozen? ⟨b, o', none⟩ = wr.frozen? ⟨b, o', none⟩ := by simp
theorem Bo.set0 {w wr : World} {B : Nat} {x y : Int} {u : Value} {l : List (Int × Int)} (h : Bo w wr B x y u l) (c : Int) : Bo w (wr.setCell ⟨B, 0, none⟩ (.int .i64 c)) B c y u l := by
  obtain ⟨h0, h1, h2, h3, h4, _⟩ := id h
  exact ⟨World.cell?_setCell_same _ _ _ h0, by rw [World.cell?_setCell_other _ _ _ _ (by simp)]; exact h1, by rw [fr_set]; exact h2, by rw [fr_set]; exact h3, h4, h.keep 0 _⟩
theorem Bo.set1 {w wr : World} {B : Nat} {x y : Int} {u : Value} {l : List (Int × Int)} (h : Bo w wr B x y u l) (c : Int) : Bo w (wr.setCell ⟨B, 1, none⟩ (.int .i64 c)) B x c u l := by
  obtain ⟨h0, h1, h2, h3, h4, _⟩ := id h
  exact ⟨by rw [World.cell?_setCell_other _ _ _ _ (by simp)]; exact h0, World.cell?_setCell_same _ _ _ h1, by rw [fr_set]; exact h2, by rw [fr_set]; exact h3, h4, h.keep 1 _⟩
theorem Bo.own {w wr : World} {B : Nat} {x y : Int} {u : Value} {l : List (Int × Int)} (h : Bo w wr B x y u l) : Own w wr u l := by
  obtain ⟨_, _, _, _, h4, h5, h6⟩ := h
  refine ⟨⟨h5.1, ?_⟩, h6⟩
  rcases h5.2 with h | ⟨g, cap, cur, hv, hb, r⟩
  · exact Or.inl h
  · exact Or.inr ⟨g, cap, cur, hv, by omega, r⟩
theorem bo_start {w wr : World} {x y : Int} {u : Value} {l : List (Int × Int)} {t : TypeId} (h : Own (w.alloc (.cells #[.int .i64 x, .int .i64 y] t)) wr u l) : Bo w wr w.heap.size x y u l := by
  refine ⟨h.2.keeps (al0 _ _ _ _), h.2.keeps (al1 _ _ _ _), ?_, ?_, Nat.le_refl _, by have := h.1; rwa [alsz] at this, ((Ext.refl _).alloc _ _).trans h.2⟩
  · rw [h.2.2.1 _ (by simp), frozen?_alloc_cells]; exact frozen_new _ _ _ (Nat.le_refl _)
  · rw [h.2.2.1 _ (by simp), frozen?_alloc_cells]; exact frozen_new _ _ _ (Nat.le_refl _)
/-- the rest of a slice that is read -/
theorem rd_drop {w : World} {g n cap i : Nat} {s : List (Int × Int)} (h : Rd w (.slice (some ⟨g, 0, none⟩) n cap) s) (hi : i ≤ n) :
    Rd w (.slice (if cap = i then some ⟨g, 0, none⟩ else some ⟨g, i * 2, none⟩) (n - i) (cap - i)) (s.drop i) := by
  obtain ⟨ad, cap', e, h1, h2, h3, h4⟩ := h
  simp only [Value.slice.injEq] at e
  obtain ⟨rfl, rfl, rfl⟩ := e
  by_cases c : cap = i
  · rw [if_pos c]
    refine ⟨_, cap - i, by rw [List.length_drop], by rw [List.length_drop]; omega, by omega, (fun e => by cases e), fun j hj => ?_⟩
    rw [List.length_drop] at hj; omega
  · rw [if_neg c]
    refine ⟨_, cap - i, by rw [List.length_drop], by rw [List.length_drop]; omega, by omega, (fun e => by cases e), fun j hj => ?_⟩
    rw [List.length_drop] at hj
    obtain ⟨g', o', e, d0, d1⟩ := h4 (i + j) (by omega)
    simp only [Option.some.injEq, Addr.mk.injEq, and_true] at e
    obtain ⟨rfl, rfl⟩ := e
    refine ⟨g, i * 2, rfl, ?_, ?_⟩
    · rw [show i * 2 + j * 2 = 0 + (i + j) * 2 by omega, d0]; simp
    · rw [show i * 2 + j * 2 + 1 = 0 + (i + j) * 2 + 1 by omega, d1]; simp
theorem lo_step {s : List (Int × Int)} {k : Nat} {x : Int} (h : ∀ q ∈ s.take k, q.2 < x) (hk : k < s.length) (e : s[k].2 < x) : ∀ q ∈ s.take (k + 1), q.2 < x := by
  intro q hq
  rw [List.take_succ_eq_append_getElem hk] at hq
  rcases List.mem_append.1 hq with hq | hq
  · exact h q hq
  · simp at hq; subst hq; exact e
set_option maxHeartbeats 8000000 in
theorem ins_some (s : List (Int × Int)) (g cap : Nat) (x y : Int) (w : World) (h : Rd w (.slice (some ⟨g, 0, none⟩) s.length cap) s) (hs : NF s) (hv : 0 ≤ x ∧ x < y ∧ y ≤ 1099511627776) :
    Calls Tryz.prog 56 #[.slice (some ⟨g, 0, none⟩) s.length cap, pv x y] w (SetPostN (fun t => memB s t || incB x y t) w) := by
  have HR := Lib.hid h
  have HS := Lib.hid hs
  have hb := hs.len
  obtain ⟨ad, cap', e, h1, h2, h3, hx⟩ := h
  simp only [Value.slice.injEq, true_and] at e
  obtain ⟨rfl, rfl⟩ := e
  have HX := Lib.hid hx
  unfold maxLen at h2
  obtain ⟨n, hn⟩ : ∃ n, n = s.length := ⟨_, rfl⟩
  have HN := Lib.hid hn
  rw [← hn]
  rw [← hn] at hb h1 HR
  clear hx hn h3 hs
  go_enter Tryz.func56, Tryz.ntmps56
  go_wp2_with fail
  go_loopw [5, 6] (fun u i wr => ∃ k : Nat, k ≤ n ∧ i = .int .i64 k ∧ Hid (∀ q ∈ s.take k, q.2 < x) ∧ Own (w.alloc (.cells #[.int .i64 x, .int .i64 y] 40)) wr u (s.take k)) (fun _ i _ => n - (intOf i).toNat)
  case atStart => exact ⟨0, by omega, rfl, Lib.hid (fun q hq => absurd hq (by simp)), Own.nil _ _ (Ext.refl _)⟩
  case round =>
    obtain ⟨k, hk, rfl, HL, hO⟩ := hrel
    have hB := bo_start hO
    obtain ⟨b0, b1, b2, b3, _, _, hE⟩ := id hB
    have hz : w.heap.size < wr.heap.size := World.block_lt_of_cell? _ _ b0
    have HBo := Lib.hid hB
    clear hB
    by_cases hlt : k < n
    · have hkl : k < s.length := by rw [← HN.out]; exact hlt
      obtain ⟨g', o', e', c0', c1'⟩ := HX.out k hkl
      simp only [Option.some.injEq, Addr.mk.injEq, and_true] at e'
      obtain ⟨rfl, rfl⟩ := e'
      rw [Nat.zero_add] at c0' c1'
      have c0 := hE.keeps c0'
      have c1 := hE.keeps c1'
      have hi0 : (0 : Int) ≤ (k : Int) := by omega
      have hi1 : (k : Int) < (n : Int) := by omega
      by_cases hgo : s[k].2 < x
      · have HT := Lib.hid (lo_step HL.out hkl hgo)
        have HK := Lib.hid (show s.take (k + 1) = s.take k ++ [(s[k].1, s[k].2)] from List.take_succ_eq_append_getElem hkl)
        have hl := (List.length_take (l := s) (i := k))
        generalize s[k].1 = a at c0 HK
        generalize s[k].2 = b at c1 hgo HK
        clear c0' c1'
        go_wp2_with fail
        go_quiet (fail)
        go_wp2_with (at_builtin; refine appR rfl _ _ rfl _ _ (s.take k) rfl ((hO.drewN _).ext ((Ext.refl _).alloc _ _)) _ [(a, b)] rfl (rd_lit1 _ a b _ _ rfl) (by simp; omega) ?_; intro v' w' hO' hg')
        go_roundw
        case rel => exact ⟨k + 1, by omega, by go_num, HT, by rw [HK.out]; exact hO'⟩
        case measure => simp [intOf]; omega
      · have HJ0 := Lib.hid (JInv.start HS.out hv HL.out (fun _ => by omega))
        go_wp2_with fail
        go_quiet (fail)
        have HB0 := Lib.hid (HBo.out.drewN nq)
        go_wp2_with fail
        obtain ⟨wA, rfl⟩ : ∃ z, z = wr := ⟨_, rfl⟩
        go_loopw [6] (fun i w2 => ∃ (i' : Nat) (x' y' : Int), i' ≤ n ∧ i = .int .i64 i' ∧ Hid (JInv s x y k i' x' y') ∧ Hid (Bo w w2 w.heap.size x' y' u5 (s.take k))) (fun i _ => n - (intOf i).toNat)
        case atStart => exact ⟨k, x, y, hk, rfl, HJ0, HB0⟩
        case round =>
          obtain ⟨i', x', y', hi', rfl, HJ, HB⟩ := hrel
          clear HBo HB0 HJ0 b0 b1 b2 b3 hE hz hO
          obtain ⟨b0, b1, b2, b3, _, _, hE⟩ := HB.out
          have hz2 : w.heap.size < wr.heap.size := World.block_lt_of_cell? _ _ b0
          have hv2 := HJ.out.val
          have hki := HJ.out.le
          by_cases hlt2 : i' < n
          · have hkl2 : i' < s.length := by rw [← HN.out]; exact hlt2
            obtain ⟨g', o', e', c0', c1'⟩ := HX.out i' hkl2
            simp only [Option.some.injEq, Addr.mk.injEq, and_true] at e'
            obtain ⟨rfl, rfl⟩ := e'
            rw [Nat.zero_add] at c0' c1'
            obtain ⟨a, b, hab⟩ : ∃ a b, s[i'] = (a, b) := ⟨_, _, rfl⟩
            rw [hab] at c0' c1'
            simp only at c0' c1'
            have c0 := hE.keeps c0'
            have c1 := hE.keeps c1'
            have hj0 : (0 : Int) ≤ (i' : Int) := by omega
            have hj1 : (i' : Int) < (n : Int) := by omega
            by_cases hgo2 : a ≤ y'
            · by_cases ca : a < x' <;> by_cases cb : y' < b
              · have HN2 := Lib.hid (HJ.out.step HS.out hkl2 hab hgo2 (c := a) (d := b) (by omega) (by omega))
                clear hab
                go_wp2_with fail
                go_quiet (fail)
                go_wp2_with fail
                go_big_region
                have HB3 := (HB.out.drewN (nq + 1)).set0 a
                generalize (wr.drewN (nq + 1)).setCell ⟨w.heap.size, 0, none⟩ (Value.int IntKind.i64 a) = w3 at HB3 ⊢
                obtain ⟨q0, q1, q2, q3, _, _, hE3⟩ := id HB3
                have d1 := hE3.keeps c1'
                have hz3 : w.heap.size < w3.heap.size := World.block_lt_of_cell? _ _ q0
                clear c0 c1 b0 b1 b2 b3 hE HB hz2
                go_wp2_with fail
                go_big_region
                go_wp2_with fail
                exact ⟨⟨i' + 1, a, b, by omega, congrArg (Value.int .i64) (by omega), HN2, Lib.hid (HB3.set1 b)⟩, by simp [intOf]; omega⟩
              · have HN2 := Lib.hid (HJ.out.step HS.out hkl2 hab hgo2 (c := a) (d := y') (by omega) (by omega))
                clear hab
                go_wp2_with fail
                go_quiet (fail)
                go_wp2_with fail
                go_big_region
                have HB3 := (HB.out.drewN (nq + 1)).set0 a
                generalize (wr.drewN (nq + 1)).setCell ⟨w.heap.size, 0, none⟩ (Value.int IntKind.i64 a) = w3 at HB3 ⊢
                obtain ⟨q0, q1, q2, q3, _, _, hE3⟩ := id HB3
                have d1 := hE3.keeps c1'
                have hz3 : w.heap.size < w3.heap.size := World.block_lt_of_cell? _ _ q0
                clear c0 c1 b0 b1 b2 b3 hE HB hz2
                go_wp2_with fail
                go_big_region
                go_wp2_with fail
                exact ⟨⟨i' + 1, a, y', by omega, congrArg (Value.int .i64) (by omega), HN2, Lib.hid (HB3.set1 y')⟩, by simp [intOf]; omega⟩
              · have HN2 := Lib.hid (HJ.out.step HS.out hkl2 hab hgo2 (c := x') (d := b) (by omega) (by omega))
                clear hab
                go_wp2_with fail
                go_quiet (fail)
                go_wp2_with fail
                go_big_region
                have HB3 := (HB.out.drewN (nq + 1)).set0 x'
                generalize (wr.drewN (nq + 1)).setCell ⟨w.heap.size, 0, none⟩ (Value.int IntKind.i64 x') = w3 at HB3 ⊢
                obtain ⟨q0, q1, q2, q3, _, _, hE3⟩ := id HB3
                have d1 := hE3.keeps c1'
                have hz3 : w.heap.size < w3.heap.size := World.block_lt_of_cell? _ _ q0
                clear c0 c1 b0 b1 b2 b3 hE HB hz2
                go_wp2_with fail
                go_big_region
                go_wp2_with fail
                exact ⟨⟨i' + 1, x', b, by omega, congrArg (Value.int .i64) (by omega), HN2, Lib.hid (HB3.set1 b)⟩, by simp [intOf]; omega⟩
              · have HN2 := Lib.hid (HJ.out.step HS.out hkl2 hab hgo2 (c := x') (d := y') (by omega) (by omega))
                clear hab
                go_wp2_with fail
                go_quiet (fail)
                go_wp2_with fail
                go_big_region
                have HB3 := (HB.out.drewN (nq + 1)).set0 x'
                generalize (wr.drewN (nq + 1)).setCell ⟨w.heap.size, 0, none⟩ (Value.int IntKind.i64 x') = w3 at HB3 ⊢
                obtain ⟨q0, q1, q2, q3, _, _, hE3⟩ := id HB3
                have d1 := hE3.keeps c1'
                have hz3 : w.heap.size < w3.heap.size := World.block_lt_of_cell? _ _ q0
                clear c0 c1 b0 b1 b2 b3 hE HB hz2
                go_wp2_with fail
                go_big_region
                go_wp2_with fail
                exact ⟨⟨i' + 1, x', y', by omega, congrArg (Value.int .i64) (by omega), HN2, Lib.hid (HB3.set1 y')⟩, by simp [intOf]; omega⟩
            · have HD := Lib.hid (HJ.out.done HS.out (fun _ => by rw [hab]; simp only; omega))
              have hgo3 : y' < a := by omega
              clear hab hgo2
              go_wp2_with fail
              go_quiet (fail)
              have HBq := HB.out.drewN nq
              generalize wr.drewN nq = wq at HBq ⊢
              obtain ⟨q0, q1, _, _, _, q5, hEq⟩ := id HBq
              have hzq : w.heap.size < wq.heap.size := World.block_lt_of_cell? _ _ q0
              have Q0 := Lib.hid q0
              have Q1 := Lib.hid q1
              have HO5 := Lib.hid q5
              have htk : (s.take k).length ≤ n := by rw [List.length_take]; have := HN.out; omega
              have hdr : (s.drop i').length ≤ n := by rw [List.length_drop]; have := HN.out; omega
              clear q0 q1 q5 HBq b0 b1 b2 b3 hE HB
              have A0 : (wq.alloc (.cells #[.int .i64 x', .int .i64 y'] 40)).drew.cell? ⟨w.heap.size, 0, none⟩ = some (.int .i64 x') := kept ((Grown.refl wq).alloc #[.int .i64 x', .int .i64 y'] 40) Q0.out
              have A1 : (wq.alloc (.cells #[.int .i64 x', .int .i64 y'] 40)).drew.cell? ⟨w.heap.size, 1, none⟩ = some (.int .i64 y') := kept ((Grown.refl wq).alloc #[.int .i64 x', .int .i64 y'] 40) Q1.out
              have OA : (wq.alloc (.cells #[.int .i64 x', .int .i64 y'] 40)).drew.ownsRow (w.heap.size + 1) 40 2 u5 (s.take k).length (cellsL (s.take k)) := HO5.out.alloc _
              have RA : Rd (wq.alloc (.cells #[.int .i64 x', .int .i64 y'] 40)).drew (.slice (some ⟨wq.heap.size, 0, none⟩) 1 1) [(x', y')] := rd_lit1 wq x' y' 40 _ rfl
              have EA : Ext w (wq.alloc (.cells #[.int .i64 x', .int .i64 y'] 40)).drew := hEq.alloc #[.int .i64 x', .int .i64 y'] 40
              have SA : w.heap.size + 1 ≤ (wq.alloc (.cells #[.int .i64 x', .int .i64 y'] 40)).drew.heap.size := Nat.le_trans hzq (by simp)
              have HAll := Lib.hid (And.intro A0 (And.intro A1 (And.intro OA (And.intro RA (And.intro EA SA)))))
              have NE5 : ∀ kk, u5.ownBlock = some kk → w.heap.size + 1 ≤ kk := fun kk hh => (HO5.out.lt kk hh).1
              have HNE := Lib.hid NE5
              clear A0 A1 OA RA EA SA NE5
              go_wp2_with fail
              go_region_held3 (fun w' => w'.cell? ⟨w.heap.size, 0, none⟩ = some (.int .i64 x') ∧ w'.cell? ⟨w.heap.size, 1, none⟩ = some (.int .i64 y')) (first | exact ⟨Q0.out, Q1.out⟩ | exact ⟨HAll.out.1, HAll.out.2.1⟩ | exact ⟨r0, r1⟩ | exact ⟨t0, t1⟩ | go_keep)
                (first | (refine step_appB rfl _ _ rfl (w.heap.size + 1) u5 (s.take k) rfl HAll.out.2.2.1 HAll.out.2.2.2.2.2 _ [(x', y')] rfl HAll.out.2.2.2.1 (by simp at htk ⊢; omega) ?_; intro v1 w1 hO1 hg1; have r0 := grow_cell hg1 HAll.out.1 (fun kk hh => by have := HNE.out kk hh; omega); have r1 := grow_cell hg1 HAll.out.2.1 (fun kk hh => by have := HNE.out kk hh; omega); have e1 := ext_grownBy HAll.out.2.2.2.2.1 hg1 (fun kk hh => by have := HNE.out kk hh; omega)) | (refine step_appB rfl _ _ rfl (w.heap.size + 1) v1 (s.take k ++ [(x', y')]) rfl hO1 (World.block_lt_of_cell? _ _ r0) _ (s.drop i') rfl ((rd_drop HR.out hi').ext e1) (by simp at htk hdr ⊢; omega) ?_; intro v2 w2 hO2 hg2; have t0 := grow_cell hg2 r0 (fun kk hh => by have := (hO1.lt kk hh).1; omega); have t1 := grow_cell hg2 r1 (fun kk hh => by have := (hO1.lt kk hh).1; omega); have e2 := ext_grownBy e1 hg2 (fun kk hh => by have := (hO1.lt kk hh).1; omega)))
              all_goals
                go_wp2_with fail
                all_goals
                  go_ret
                  exact ⟨_, _, rfl, HD.out.1, HD.out.2, owns_low hO2 (Nat.le_succ _), e2⟩
          · have HD := Lib.hid (HJ.out.done HS.out (fun hh => absurd hh (by have := HN.out; omega)))
            go_wp2_with fail
            go_quiet (fail)
            have HBq := HB.out.drewN nq
            generalize wr.drewN nq = wq at HBq ⊢
            obtain ⟨q0, q1, _, _, _, q5, hEq⟩ := id HBq
            have hzq : w.heap.size < wq.heap.size := World.block_lt_of_cell? _ _ q0
            have Q0 := Lib.hid q0
            have Q1 := Lib.hid q1
            have HO5 := Lib.hid q5
            have htk : (s.take k).length ≤ n := by rw [List.length_take]; have := HN.out; omega
            have hdr : (s.drop i').length ≤ n := by rw [List.length_drop]; have := HN.out; omega
            clear q0 q1 q5 HBq b0 b1 b2 b3 hE HB
            have A0 : (wq.alloc (.cells #[.int .i64 x', .int .i64 y'] 40)).drew.cell? ⟨w.heap.size, 0, none⟩ = some (.int .i64 x') := kept ((Grown.refl wq).alloc #[.int .i64 x', .int .i64 y'] 40) Q0.out
            have A1 : (wq.alloc (.cells #[.int .i64 x', .int .i64 y'] 40)).drew.cell? ⟨w.heap.size, 1, none⟩ = some (.int .i64 y') := kept ((Grown.refl wq).alloc #[.int .i64 x', .int .i64 y'] 40) Q1.out
            have OA : (wq.alloc (.cells #[.int .i64 x', .int .i64 y'] 40)).drew.ownsRow (w.heap.size + 1) 40 2 u5 (s.take k).length (cellsL (s.take k)) := HO5.out.alloc _
            have RA : Rd (wq.alloc (.cells #[.int .i64 x', .int .i64 y'] 40)).drew (.slice (some ⟨wq.heap.size, 0, none⟩) 1 1) [(x', y')] := rd_lit1 wq x' y' 40 _ rfl
            have EA : Ext w (wq.alloc (.cells #[.int .i64 x', .int .i64 y'] 40)).drew := hEq.alloc #[.int .i64 x', .int .i64 y'] 40
            have SA : w.heap.size + 1 ≤ (wq.alloc (.cells #[.int .i64 x', .int .i64 y'] 40)).drew.heap.size := Nat.le_trans hzq (by simp)
            have HAll := Lib.hid (And.intro A0 (And.intro A1 (And.intro OA (And.intro RA (And.intro EA SA)))))
            have NE5 : ∀ kk, u5.ownBlock = some kk → w.heap.size + 1 ≤ kk := fun kk hh => (HO5.out.lt kk hh).1
            have HNE := Lib.hid NE5
            clear A0 A1 OA RA EA SA NE5
            go_wp2_with fail
            go_region_held3 (fun w' => w'.cell? ⟨w.heap.size, 0, none⟩ = some (.int .i64 x') ∧ w'.cell? ⟨w.heap.size, 1, none⟩ = some (.int .i64 y')) (first | exact ⟨Q0.out, Q1.out⟩ | exact ⟨HAll.out.1, HAll.out.2.1⟩ | exact ⟨r0, r1⟩ | exact ⟨t0, t1⟩ | go_keep)
              (first | (refine step_appB rfl _ _ rfl (w.heap.size + 1) u5 (s.take k) rfl HAll.out.2.2.1 HAll.out.2.2.2.2.2 _ [(x', y')] rfl HAll.out.2.2.2.1 (by simp at htk ⊢; omega) ?_; intro v1 w1 hO1 hg1; have r0 := grow_cell hg1 HAll.out.1 (fun kk hh => by have := HNE.out kk hh; omega); have r1 := grow_cell hg1 HAll.out.2.1 (fun kk hh => by have := HNE.out kk hh; omega); have e1 := ext_grownBy HAll.out.2.2.2.2.1 hg1 (fun kk hh => by have := HNE.out kk hh; omega)) | (refine step_appB rfl _ _ rfl (w.heap.size + 1) v1 (s.take k ++ [(x', y')]) rfl hO1 (World.block_lt_of_cell? _ _ r0) _ (s.drop i') rfl ((rd_drop HR.out hi').ext e1) (by simp at htk hdr ⊢; omega) ?_; intro v2 w2 hO2 hg2; have t0 := grow_cell hg2 r0 (fun kk hh => by have := (hO1.lt kk hh).1; omega); have t1 := grow_cell hg2 r1 (fun kk hh => by have := (hO1.lt kk hh).1; omega); have e2 := ext_grownBy e1 hg2 (fun kk hh => by have := (hO1.lt kk hh).1; omega)))
            all_goals
              go_wp2_with fail
              all_goals
                go_ret
                exact ⟨_, _, rfl, HD.out.1, HD.out.2, owns_low hO2 (Nat.le_succ _), e2⟩
    · have HJ0 := Lib.hid (JInv.start HS.out hv HL.out (fun hh => absurd hh (by have := HN.out; omega)))
      go_wp2_with fail
      go_quiet (fail)
      have HB0 := Lib.hid (HBo.out.drewN nq)
      go_wp2_with fail
      obtain ⟨wA, rfl⟩ : ∃ z, z = wr := ⟨_, rfl⟩
      go_loopw [6] (fun i w2 => ∃ (i' : Nat) (x' y' : Int), i' ≤ n ∧ i = .int .i64 i' ∧ Hid (JInv s x y k i' x' y') ∧ Hid (Bo w w2 w.heap.size x' y' u5 (s.take k))) (fun i _ => n - (intOf i).toNat)
      case atStart => exact ⟨k, x, y, hk, rfl, HJ0, HB0⟩
      case round =>
        obtain ⟨i', x', y', hi', rfl, HJ, HB⟩ := hrel
        clear HBo HB0 HJ0 b0 b1 b2 b3 hE hz hO
        obtain ⟨b0, b1, b2, b3, _, _, hE⟩ := HB.out
        have hz2 : w.heap.size < wr.heap.size := World.block_lt_of_cell? _ _ b0
        have hv2 := HJ.out.val
        have hki := HJ.out.le
        by_cases hlt2 : i' < n
        · exact absurd hlt2 (by omega)
        · have HD := Lib.hid (HJ.out.done HS.out (fun hh => absurd hh (by have := HN.out; omega)))
          go_wp2_with fail
          go_quiet (fail)
          have HBq := HB.out.drewN nq
          generalize wr.drewN nq = wq at HBq ⊢
          obtain ⟨q0, q1, _, _, _, q5, hEq⟩ := id HBq
          have hzq : w.heap.size < wq.heap.size := World.block_lt_of_cell? _ _ q0
          have Q0 := Lib.hid q0
          have Q1 := Lib.hid q1
          have HO5 := Lib.hid q5
          have htk : (s.take k).length ≤ n := by rw [List.length_take]; have := HN.out; omega
          have hdr : (s.drop i').length ≤ n := by rw [List.length_drop]; have := HN.out; omega
          clear q0 q1 q5 HBq b0 b1 b2 b3 hE HB
          have A0 : (wq.alloc (.cells #[.int .i64 x', .int .i64 y'] 40)).drew.cell? ⟨w.heap.size, 0, none⟩ = some (.int .i64 x') := kept ((Grown.refl wq).alloc #[.int .i64 x', .int .i64 y'] 40) Q0.out
          have A1 : (wq.alloc (.cells #[.int .i64 x', .int .i64 y'] 40)).drew.cell? ⟨w.heap.size, 1, none⟩ = some (.int .i64 y') := kept ((Grown.refl wq).alloc #[.int .i64 x', .int .i64 y'] 40) Q1.out
          have OA : (wq.alloc (.cells #[.int .i64 x', .int .i64 y'] 40)).drew.ownsRow (w.heap.size + 1) 40 2 u5 (s.take k).length (cellsL (s.take k)) := HO5.out.alloc _
          have RA : Rd (wq.alloc (.cells #[.int .i64 x', .int .i64 y'] 40)).drew (.slice (some ⟨wq.heap.size, 0, none⟩) 1 1) [(x', y')] := rd_lit1 wq x' y' 40 _ rfl
          have EA : Ext w (wq.alloc (.cells #[.int .i64 x', .int .i64 y'] 40)).drew := hEq.alloc #[.int .i64 x', .int .i64 y'] 40
          have SA : w.heap.size + 1 ≤ (wq.alloc (.cells #[.int .i64 x', .int .i64 y'] 40)).drew.heap.size := Nat.le_trans hzq (by simp)
          have HAll := Lib.hid (And.intro A0 (And.intro A1 (And.intro OA (And.intro RA (And.intro EA SA)))))
          have NE5 : ∀ kk, u5.ownBlock = some kk → w.heap.size + 1 ≤ kk := fun kk hh => (HO5.out.lt kk hh).1
          have HNE := Lib.hid NE5
          clear A0 A1 OA RA EA SA NE5
          go_wp2_with fail
          go_region_held3 (fun w' => w'.cell? ⟨w.heap.size, 0, none⟩ = some (.int .i64 x') ∧ w'.cell? ⟨w.heap.size, 1, none⟩ = some (.int .i64 y')) (first | exact ⟨Q0.out, Q1.out⟩ | exact ⟨HAll.out.1, HAll.out.2.1⟩ | exact ⟨r0, r1⟩ | exact ⟨t0, t1⟩ | go_keep)
            (first | (refine step_appB rfl _ _ rfl (w.heap.size + 1) u5 (s.take k) rfl HAll.out.2.2.1 HAll.out.2.2.2.2.2 _ [(x', y')] rfl HAll.out.2.2.2.1 (by simp at htk ⊢; omega) ?_; intro v1 w1 hO1 hg1; have r0 := grow_cell hg1 HAll.out.1 (fun kk hh => by have := HNE.out kk hh; omega); have r1 := grow_cell hg1 HAll.out.2.1 (fun kk hh => by have := HNE.out kk hh; omega); have e1 := ext_grownBy HAll.out.2.2.2.2.1 hg1 (fun kk hh => by have := HNE.out kk hh; omega)) | (refine step_appB rfl _ _ rfl (w.heap.size + 1) v1 (s.take k ++ [(x', y')]) rfl hO1 (World.block_lt_of_cell? _ _ r0) _ (s.drop i') rfl ((rd_drop HR.out hi').ext e1) (by simp at htk hdr ⊢; omega) ?_; intro v2 w2 hO2 hg2; have t0 := grow_cell hg2 r0 (fun kk hh => by have := (hO1.lt kk hh).1; omega); have t1 := grow_cell hg2 r1 (fun kk hh => by have := (hO1.lt kk hh).1; omega); have e2 := ext_grownBy e1 hg2 (fun kk hh => by have := (hO1.lt kk hh).1; omega)))
          all_goals
            go_wp2_with fail
            all_goals
              go_ret
              exact ⟨_, _, rfl, HD.out.1, HD.out.2, owns_low hO2 (Nat.le_succ _), e2⟩
end Go.Proofs.YtnckdopphimgoaaGreat
