/- Contracts of the reference's insert at whatever row, Normalize, UnionSet and Len. -/
import Derived.Test.YtckknhocmbhmhaaIns2
import Derived.Test.YtckknhocmbhmhaaVal
namespace Go.Proofs.Ytckknhocmbhmhaa
open Go.ChangeShapes Go.WideShapes Go.ChangeAt Go.RowKit

/-- the box of a period, and all else as it was -/
def Bn (w wr : World) (x y : Int) : Prop := wr.cell? ⟨w.heap.size, 0, none⟩ = some (.int .i64 x) ∧ wr.cell? ⟨w.heap.size, 1, none⟩ = some (.int .i64 y) ∧ Ext w wr
theorem Bn.drewN {w wr : World} {x y : Int} (h : Bn w wr x y) (n : Nat) : Bn w (wr.drewN n) x y := h
set_option maxHeartbeats 4000000 in
theorem ins_nil (x y : Int) (w : World) (hv : 0 ≤ x ∧ x < y ∧ y ≤ 1099511627776) : Calls Try.prog 30 #[.slice none 0 0, pv x y] w (SetPost (fun t => memB [] t || incB x y t) w) := by
  have HD := Lib.hid (show NF ([] ++ [(x, y)] ++ []) ∧ ∀ t, memB ([] ++ [(x, y)] ++ []) t = (memB [] t || incB x y t) from ⟨NF.one hv.1 hv.2.1 hv.2.2, fun t => by simp [memB]⟩)
  go_enter Try.func30, Try.ntmps30
  go_wp2_with fail
  go_loopw [5, 6] (fun u i wr => Hid (Bn w wr x y) ∧ u = .slice none 0 0 ∧ i = .int .i64 0) (fun _ _ _ => 0)
  case atStart => exact ⟨Lib.hid ⟨al0 _ _ _ _, al1 _ _ _ _, (Ext.refl _).alloc _ _⟩, rfl, rfl⟩
  case round =>
    obtain ⟨HB, rfl, rfl⟩ := hrel
    go_wp2_with fail
    go_quiet (fail)
    have HB0 := Lib.hid (HB.out.drewN nq)
    go_wp2_with fail
    obtain ⟨wA, rfl⟩ : ∃ z, z = wr := ⟨_, rfl⟩
    go_loopw [6] (fun i wr => Hid (Bn w wr x y) ∧ i = .int .i64 0) (fun _ _ => 0)
    case atStart => exact ⟨HB0, rfl⟩
    case round =>
      obtain ⟨HB2, rfl⟩ := hrel
      go_wp2_with fail
      go_quiet (fail)
      have HB3 := HB2.out.drewN nq
      generalize wr.drewN nq = wq at HB3 ⊢
      obtain ⟨q0, q1, hEq⟩ := id HB3
      have hzq : w.heap.size < wq.heap.size := World.block_lt_of_cell? _ _ q0
      have Q0 := Lib.hid q0
      have Q1 := Lib.hid q1
      have A0 : (wq.alloc (.cells #[.int .i64 x, .int .i64 y] 30)).drew.cell? ⟨w.heap.size, 0, none⟩ = some (.int .i64 x) := kept ((Grown.refl wq).alloc #[.int .i64 x, .int .i64 y] 30) q0
      have A1 : (wq.alloc (.cells #[.int .i64 x, .int .i64 y] 30)).drew.cell? ⟨w.heap.size, 1, none⟩ = some (.int .i64 y) := kept ((Grown.refl wq).alloc #[.int .i64 x, .int .i64 y] 30) q1
      have OA : (wq.alloc (.cells #[.int .i64 x, .int .i64 y] 30)).drew.ownsRow (w.heap.size + 1) 30 2 (.slice none 0 0) ([] : List (Int × Int)).length (cellsL []) := World.ownsRow_nil _ _ _ _
      have RA : Rd (wq.alloc (.cells #[.int .i64 x, .int .i64 y] 30)).drew (.slice (some ⟨wq.heap.size, 0, none⟩) 1 1) [(x, y)] := rd_lit1 wq x y 30 _ rfl
      have EA : Ext w (wq.alloc (.cells #[.int .i64 x, .int .i64 y] 30)).drew := hEq.alloc #[.int .i64 x, .int .i64 y] 30
      have SA : w.heap.size + 1 ≤ (wq.alloc (.cells #[.int .i64 x, .int .i64 y] 30)).drew.heap.size := Nat.le_trans hzq (by simp)
      have HAll := Lib.hid (And.intro A0 (And.intro A1 (And.intro OA (And.intro RA (And.intro EA SA)))))
      clear A0 A1 OA RA EA SA q0 q1 HB3 HB2 HB0 HB
      go_wp2_with fail
      go_region_held3 (fun w' => w'.cell? ⟨w.heap.size, 0, none⟩ = some (.int .i64 x) ∧ w'.cell? ⟨w.heap.size, 1, none⟩ = some (.int .i64 y)) (first | exact ⟨Q0.out, Q1.out⟩ | exact ⟨HAll.out.1, HAll.out.2.1⟩ | exact ⟨r0, r1⟩ | exact ⟨t0, t1⟩ | go_keep)
        (first | (refine step_appB rfl _ _ rfl (w.heap.size + 1) (.slice none 0 0) [] rfl HAll.out.2.2.1 HAll.out.2.2.2.2.2 _ [(x, y)] rfl HAll.out.2.2.2.1 (by simp) ?_; intro v1 w1 hO1 hg1; have r0 := grow_cell hg1 HAll.out.1 (fun kk hh => by cases hh); have r1 := grow_cell hg1 HAll.out.2.1 (fun kk hh => by cases hh); have e1 := ext_grownBy HAll.out.2.2.2.2.1 hg1 (fun kk hh => by cases hh)) | (refine step_appB rfl _ _ rfl (w.heap.size + 1) v1 ([] ++ [(x, y)]) rfl hO1 (World.block_lt_of_cell? _ _ r0) _ [] rfl (rd_nil _) (by simp) ?_; intro v2 w2 hO2 hg2; have t0 := grow_cell hg2 r0 (fun kk hh => by have := (hO1.lt kk hh).1; omega); have t1 := grow_cell hg2 r1 (fun kk hh => by have := (hO1.lt kk hh).1; omega); have e2 := ext_grownBy e1 hg2 (fun kk hh => by have := (hO1.lt kk hh).1; omega)))
      all_goals
        go_wp2_with fail
        all_goals
          go_ret
          exact ⟨_, _, rfl, HD.out.1, HD.out.2, owns_zero hO2, e2⟩
theorem ins_ref (s : List (Int × Int)) (v : Value) (x y : Int) (w : World) (h : w.ownsRow 0 30 2 v s.length (cellsL s)) (hs : NF s) (hv : 0 ≤ x ∧ x < y ∧ y ≤ 1099511627776) :
    Calls Try.prog 30 #[v, pv x y] w (SetPost (fun t => memB s t || incB x y t) w) := by
  have hr := rd_of_owns h
  rcases h.2 with ⟨rfl, h0⟩ | ⟨g, cap, cur, rfl, _⟩
  · obtain rfl : s = [] := List.eq_nil_of_length_eq_zero h0
    exact ins_nil x y w hv
  · exact ins_some s g cap x y w hr hs hv
set_option maxHeartbeats 4000000 in
theorem norm_ref (s : List (Int × Int)) (v : Value) (w : World) (h : Rd w v s) : Calls Try.prog 15 #[v] w (SetPost (memB s) w) := by
  obtain ⟨ad, cap, rfl, hc, hm, _, hx⟩ := h
  have HX := Lib.hid hx
  have hm' : s.length ≤ maxLen := Nat.le_trans hc hm
  obtain ⟨n, hn⟩ : ∃ n, n = s.length := ⟨_, rfl⟩
  have HN := Lib.hid hn
  unfold maxLen at hm'
  rw [← hn]
  rw [← hn] at hm'
  clear hx hn hc hm
  go_enter Try.func15, Try.ntmps15
  go_wp2_with fail
  go_loopw [3, 4] (fun u i wr => ∃ k : Nat, k ≤ n ∧ i = .int .i64 k ∧ ∃ l, Hid (NF l ∧ (∀ t, memB l t = memB (s.take k) t) ∧ wr.ownsRow 0 30 2 u l.length (cellsL l)) ∧ Ext w wr) (fun _ i _ => n - (intOf i).toNat)
  case atStart => exact ⟨0, by omega, rfl, [], Lib.hid ⟨NF.nil, fun _ => rfl, World.ownsRow_nil _ _ _ _⟩, Ext.refl _⟩
  case round =>
    obtain ⟨k, hk, rfl, l, HI, hE⟩ := hrel
    by_cases hlt : k < n
    · have hkl : k < s.length := by rw [← HN.out]; exact hlt
      obtain ⟨g, o, rfl, c0', c1'⟩ := HX.out k hkl
      have c0 := hE.keeps c0'
      have c1 := hE.keeps c1'
      have hi1 : (k : Int) < (n : Int) := by omega
      have hst := fun t => memB_take (t := t) hkl
      obtain ⟨x, y, hxy⟩ : ∃ x y, s[k] = (x, y) := ⟨_, _, rfl⟩
      rw [hxy] at c0' c1' c0 c1 hst
      simp only at c0' c1' c0 c1 hst
      clear hxy
      cases hv : okV x y
      · have HS := Lib.hid (show ∀ t, memB l t = memB (s.take (k + 1)) t from fun t => by rw [hst, HI.out.2.1]; simp [incB, hv])
        have HV := Lib.hid hv
        clear hv hst
        go_wp2_with fail
        refine (vp_no _ _ _ HV.out).mono ?_; rintro e w6 ⟨rfl, hg6⟩
        have hE6 := hE.trans (ext_of_grown hg6)
        have HO6 := Lib.hid ((ext_of_grown hg6).owns HI.out.2.2)
        clear c0 c1 hg6
        go_wp2_with fail
        go_roundw
        case rel => exact ⟨k + 1, by omega, by go_num, l, Lib.hid ⟨HI.out.1, HS.out, HO6.out⟩, hE6⟩
        case measure => simp [intOf]; omega
      · have HS := Lib.hid hst
        have hv' := (okV_iff x y).1 hv
        have HV := Lib.hid hv
        clear hv hst
        go_wp2_with fail
        refine (vp_yes _ _ _ HV.out).mono ?_; rintro e w6 ⟨rfl, hg6⟩
        have hE6 := hE.trans (ext_of_grown hg6)
        have HO6 := Lib.hid ((ext_of_grown hg6).owns HI.out.2.2)
        have d0 := hE6.keeps c0'
        have d1 := hE6.keeps c1'
        clear c0 c1 hg6
        go_wp2_with fail
        refine (ins_ref l _ x y _ HO6.out HI.out.1 hv').mono ?_
        rintro e w7 ⟨v7, l7, rfl, n7, m7, o7, e7⟩
        have H7 := Lib.hid (And.intro n7 (And.intro (show ∀ t, memB l7 t = memB (s.take (k + 1)) t from fun t => (m7 t).trans (by rw [HS.out, ← HI.out.2.1])) o7))
        clear n7 m7 o7
        go_wp2_with fail
        go_roundw
        case rel => exact ⟨k + 1, by omega, by go_num, l7, H7, hE6.trans e7⟩
        case measure => simp [intOf]; omega
    · have hkn : k = n := by omega
      have hall : s.take k = s := by rw [hkn, HN.out]; exact List.take_length
      have HS := Lib.hid (show ∀ t, memB l t = memB s t by have := HI.out.2.1; rwa [hall] at this)
      clear hall hkn
      go_wp2_with fail
      go_ret
      exact ⟨_, l, rfl, HI.out.1, HS.out, HI.out.2.2, hE⟩
set_option maxHeartbeats 2000000 in
theorem union_ref (a b : List (Int × Int)) (va vb : Value) (w : World) (ha : Rd w va a) (hb : Rd w vb b) (hl : a.length + b.length ≤ 4398046511104) : Calls Try.prog 19 #[va, vb] w (SetPost (fun t => memB a t || memB b t) w) := by
  have HA := Lib.hid ha
  have HB := Lib.hid hb
  clear ha hb
  go_enter Try.func19, Try.ntmps19
  go_wp2_with (first | (at_builtin; refine appR rfl _ _ rfl w (.slice none 0 0) [] rfl (Own.nil w w (Ext.refl _)) va a rfl HA.out (by simp; omega) ?_; intro v1 w1 hO1 hg1) | (at_builtin; refine appR rfl _ _ rfl w v1 ([] ++ a) rfl hO1 vb b rfl (HB.out.ext hO1.2) (by simp; omega) ?_; intro v2 w2 hO2 hg2))
  refine (norm_ref ([] ++ a ++ b) v2 w2 hO2.rd).mono ?_
  rintro e w3 ⟨v3, l, rfl, hN, hM, ho, hE⟩
  go_wp2_with fail
  go_ret
  exact ⟨_, l, rfl, hN, fun t => by rw [hM, List.nil_append, memB_append], ho, hO2.2.trans hE⟩
theorem lenL_step' {l : List (Int × Int)} {k : Nat} (h : k < l.length) : lenL (l.take (k + 1)) = lenL (l.take k) + l[k].2 - l[k].1 := by
  rw [List.take_succ_eq_append_getElem h, lenL_append]; simp [lenL]; omega
/-- the length of a set of points, by the reference -/
def LenPostR (P : Int → Bool) (w : World) (e : Ending) (w' : World) : Prop := ∃ l, NF l ∧ (∀ t, memB l t = P t) ∧ e = .returned (.int .i64 (lenL l)) ∧ Ext w w'
set_option maxHeartbeats 4000000 in
theorem len_ref (l0 : List (Int × Int)) (v : Value) (w : World) (h : Rd w v l0) : Calls Try.prog 17 #[v] w (LenPostR (memB l0) w) := by
  have H := Lib.hid h
  clear h
  go_enter Try.func17, Try.ntmps17
  go_wp2_with fail
  refine (norm_ref l0 v w H.out).mono ?_
  rintro e w1 ⟨v1, l, rfl, hN, hM, ho, hE⟩
  obtain ⟨ad, cap, rfl, hc, hm, _, hx⟩ := rd_of_owns ho
  have HX := Lib.hid hx
  have HNF := Lib.hid hN
  have HM := Lib.hid hM
  have hb := hN.len
  obtain ⟨n, hn⟩ : ∃ n, n = l.length := ⟨_, rfl⟩
  have HN := Lib.hid hn
  rw [← hn]
  rw [← hn] at hb
  clear hx hn hc hm hN hM ho
  go_wp2_with fail
  go_loopw [3, 9] (fun u i wr => ∃ k : Nat, k ≤ n ∧ i = .int .i64 k ∧ u = .int .i64 (lenL (l.take k)) ∧ Ext w1 wr) (fun _ i _ => n - (intOf i).toNat)
  case atStart => exact ⟨0, by omega, rfl, rfl, Ext.refl _⟩
  case round =>
    obtain ⟨k, hk, rfl, rfl, hX⟩ := hrel
    by_cases hlt : k < n
    · have hkl : k < l.length := by rw [← HN.out]; exact hlt
      obtain ⟨g, o, rfl, c0', c1'⟩ := HX.out k hkl
      have c0 := hX.keeps c0'
      have c1 := hX.keeps c1'
      have hi1 : (k : Int) < (n : Int) := by omega
      have hst := lenL_step' hkl
      have hb0 := lenL_bd (HNF.out.take k)
      have hv := HNF.out.1 l[k] (List.getElem_mem _)
      generalize l[k].1 = x at c0 hst hv
      generalize l[k].2 = y at c1 hst hv
      have HS := Lib.hid hst
      clear c0' c1' hst
      generalize lenL (l.take k) = z at hb0 HS ⊢
      go_wp2_with fail
      go_roundw
      case rel => exact ⟨k + 1, by omega, by go_num, by rw [HS.out], hX.alloc _ _⟩
      case measure => simp [intOf]; omega
    · have hkn : k = n := by omega
      have hall : l.take k = l := by rw [hkn, HN.out]; exact List.take_length
      rw [hall]
      clear hall
      go_wp2_with fail
      go_ret
      exact ⟨l, HNF.out, HM.out, rfl, hE.trans hX⟩
end Go.Proofs.Ytckknhocmbhmhaa
