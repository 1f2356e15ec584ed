/- Contracts of the reference's insert at whatever row and Normalize. -/
import Derived.Lib.SmallJoins
import Derived.Deep.Slices
import Derived.LaidMore
import Derived.ChangeMaps5
import Derived.Test.YtnckdopphimgoaaGreatZz02
import Derived.Test.YtnckdopphimgoaaGreatZz04
import Derived.Test.YtnckdopphimgoaaGreatZz07
import Derived.Test.YtnckdopphimgoaaGreatZz08
import Derived.Test.YtnckdopphimgoaaGreatZz13
namespace Go.Proofs.YtnckdopphimgoaaGreat
open Go.ChangeShapes Go.WideShapes Go.ChangeAt Go.RowKit

/-- the box of a period, and all else «as» it was -/
def Bn (w wr : World) (x y : Int) : Prop := wr.cell? ⟨w.heap.size, 0, none⟩ = some (.int .i64 x) ∧ wr.cell? ⟨w.heap.size, 1, none⟩ = some (.int .i64 y) ∧ Ext w wr
theorem Bn.drewN {w wr : World} {x y : Int} (h : Bn w wr x y) (n : Nat) : Bn w (wr.drewN n) x y := h
set_option maxHeartbeats 4000000 in
theorem ins_nil (x y : Int) (w : World) (hv : 0 ≤ x ∧ x < y ∧ y ≤ 1099511627776) : Calls Tryz.prog 56 #[.slice none 0 0, pv x y] w (SetPostN (fun t => memB [] t || incB x y t) w) := by
  have HD := Lib.hid (show NF ([] ++ [(x, y)] ++ []) ∧ ∀ t, memB ([] ++ [(x, y)] ++ []) t = (memB [] t || incB x y t) from ⟨NF.one hv.1 hv.2.1 hv.2.2, fun t => by simp [memB]⟩)
  go_enter Tryz.func56, Tryz.ntmps56
  go_wp2_with fail
  go_loopw [5, 6] (fun u i wr => Hid (Bn w wr x y) ∧ u = .slice none 0 0 ∧ i = .int .i64 0) (fun _ _ _ => 0)
  case atStart => exact ⟨Lib.hid ⟨al0 _ _ _ _, al1 _ _ _ _, (Ext.refl _).alloc _ _⟩, rfl, rfl⟩
  case round =>
    obtain ⟨HB, rfl, rfl⟩ := hrel
    go_wp2_with fail
    go_quiet (fail)
    have HB0 := Lib.hid (HB.out.drewN nq)
    go_wp2_with fail
    obtain ⟨wA, rfl⟩ : ∃ z, z = wr := ⟨_, rfl⟩
    go_loopw [6] (fun i wr => Hid (Bn w wr x y) ∧ i = .int .i64 0) (fun _ _ => 0)
    case atStart => exact ⟨HB0, rfl⟩
    case round =>
      obtain ⟨HB2, rfl⟩ := hrel
      go_wp2_with fail
      go_quiet (fail)
      have HB3 := HB2.out.drewN nq
      generalize wr.drewN nq = wq at HB3 ⊢
      obtain ⟨q0, q1, hEq⟩ := id HB3
      have hzq : w.heap.size < wq.heap.size := World.block_lt_of_cell? _ _ q0
      have Q0 := Lib.hid q0
      have Q1 := Lib.hid q1
      have A0 : (wq.alloc (.cells #[.int .i64 x, .int .i64 y] 40)).drew.cell? ⟨w.heap.size, 0, none⟩ = some (.int .i64 x) := kept ((Grown.refl wq).alloc #[.int .i64 x, .int .i64 y] 40) q0
      have A1 : (wq.alloc (.cells #[.int .i64 x, .int .i64 y] 40)).drew.cell? ⟨w.heap.size, 1, none⟩ = some (.int .i64 y) := kept ((Grown.refl wq).alloc #[.int .i64 x, .int .i64 y] 40) q1
      have OA : (wq.alloc (.cells #[.int .i64 x, .int .i64 y] 40)).drew.ownsRow (w.heap.size + 1) 40 2 (.slice none 0 0) ([] : List (Int × Int)).length (cellsL []) := World.ownsRow_nil _ _ _ _
      have RA : Rd (wq.alloc (.cells #[.int .i64 x, .int .i64 y] 40)).drew (.slice (some ⟨wq.heap.size, 0, none⟩) 1 1) [(x, y)] := rd_lit1 wq x y 40 _ rfl
      have EA : Ext w (wq.alloc (.cells #[.int .i64 x, .int .i64 y] 40)).drew := hEq.alloc #[.int .i64 x, .int .i64 y] 40
      have SA : w.heap.size + 1 ≤ (wq.alloc (.cells #[.int .i64 x, .int .i64 y] 40)).drew.heap.size := Nat.le_trans hzq (by simp)
      have HAll := Lib.hid (And.intro A0 (And.intro A1 (And.intro OA (And.intro RA (And.intro EA SA)))))
      clear A0 A1 OA RA EA SA q0 q1 HB3 HB2 HB0 HB
      go_wp2_with fail
      go_region_held3 (fun w' => w'.cell? ⟨w.heap.size, 0, none⟩ = some (.int .i64 x) ∧ w'.cell? ⟨w.heap.size, 1, none⟩ = some (.int .i64 y)) (first | exact ⟨Q0.out, Q1.out⟩ | exact ⟨HAll.out.1, HAll.out.2.1⟩ | exact ⟨r0, r1⟩ | exact ⟨t0, t1⟩ | go_keep)
        (first | (refine step_appB rfl _ _ rfl (w.heap.size + 1) (.slice none 0 0) [] rfl HAll.out.2.2.1 HAll.out.2.2.2.2.2 _ [(x, y)] rfl HAll.out.2.2.2.1 (by simp) ?_; intro v1 w1 hO1 hg1; have r0 := grow_cell hg1 HAll.out.1 (fun kk hh => by cases hh); have r1 := grow_cell hg1 HAll.out.2.1 (fun kk hh => by cases hh); have e1 := ext_grownBy HAll.out.2.2.2.2.1 hg1 (fun kk hh => by cases hh)) | (refine step_appB rfl _ _ rfl (w.heap.size + 1) v1 ([] ++ [(x, y)]) rfl hO1 (World.block_lt_of_cell? _ _ r0) _ [] rfl (rd_nil _) (by simp) ?_; intro v2 w2 hO2 hg2; have t0 := grow_cell hg2 r0 (fun kk hh => by have := (hO1.lt kk hh).1; omega); have t1 := grow_cell hg2 r1 (fun kk hh => by have := (hO1.lt kk hh).1; omega); have e2 := ext_grownBy e1 hg2 (fun kk hh => by have := (hO1.lt kk hh).1; omega)))
      all_goals
        go_wp2_with fail
        all_goals
          go_ret
          exact ⟨_, _, rfl, HD.out.1, HD.out.2, owns_low hO2 (Nat.le_succ _), e2⟩
theorem ins_ref (s : List (Int × Int)) (v : Value) (x y : Int) (w : World) (h : w.ownsRow 0 40 2 v s.length (cellsL s)) (hs : NF s) (hv : 0 ≤ x ∧ x < y ∧ y ≤ 1099511627776) :
    Calls Tryz.prog 56 #[v, pv x y] w (SetPostN (fun t => memB s t || incB x y t) w) := by
  have hr := rd_of_owns h
  rcases h.2 with ⟨rfl, h0⟩ | ⟨g, cap, cur, rfl, _⟩
  · obtain rfl : s = [] := List.eq_nil_of_length_eq_zero h0
    exact ins_nil x y w hv
  · exact ins_some s g cap x y w hr hs hv
set_option maxHeartbeats 4000000 in
theorem norm_refN (s : List (Int × Int)) (v : Value) (w : World) (h : Rd w v s) : Calls Tryz.prog 43 #[v] w (SetPostN (memB s) w) := by
  obtain ⟨ad, cap, rfl, hc, hm, _, hx⟩ := h
  have HX := Lib.hid hx
  have hm' : s.length ≤ maxLen := Nat.le_trans hc hm
  obtain ⟨n, hn⟩ : ∃ n, n = s.length := ⟨_, rfl⟩
  have HN := Lib.hid hn
  unfold maxLen at hm'
  rw [← hn]
  rw [← hn] at hm'
  clear hx hn hc hm
  go_enter Tryz.func43, Tryz.ntmps43
  go_wp2_with fail
  go_loopw [3, 4] (fun u i wr => ∃ k : Nat, k ≤ n ∧ i = .int .i64 k ∧ ∃ l, Hid (NF l ∧ (∀ t, memB l t = memB (s.take k) t) ∧ wr.ownsRow w.heap.size 40 2 u l.length (cellsL l)) ∧ Ext w wr) (fun _ i _ => n - (intOf i).toNat)
  case atStart => exact ⟨0, by omega, rfl, [], Lib.hid ⟨NF.nil, fun _ => rfl, World.ownsRow_nil _ _ _ _⟩, Ext.refl _⟩
  case round =>
    obtain ⟨k, hk, rfl, l, HI, hE⟩ := hrel
    by_cases hlt : k < n
    · have hkl : k < s.length := by rw [← HN.out]; exact hlt
      obtain ⟨g, o, rfl, c0', c1'⟩ := HX.out k hkl
      have c0 := hE.keeps c0'
      have c1 := hE.keeps c1'
      have hi1 : (k : Int) < (n : Int) := by omega
      have hst := fun t => memB_take (t := t) hkl
      obtain ⟨x, y, hxy⟩ : ∃ x y, s[k] = (x, y) := ⟨_, _, rfl⟩
      rw [hxy] at c0' c1' c0 c1 hst
      simp only at c0' c1' c0 c1 hst
      clear hxy
      cases hv : okV x y
      · have HS := Lib.hid (show ∀ t, memB l t = memB (s.take (k + 1)) t from fun t => by rw [hst, HI.out.2.1]; simp [incB, hv])
        have HV := Lib.hid hv
        clear hv hst
        go_wp2_with fail
        refine (vp_no _ _ _ HV.out).mono ?_; rintro e w6 ⟨rfl, hg6⟩
        have hE6 := hE.trans (ext_of_grown hg6)
        have HO6 := Lib.hid ((ext_of_grown hg6).owns HI.out.2.2)
        clear c0 c1 hg6
        go_wp2_with fail
        go_roundw
        case rel => exact ⟨k + 1, by omega, by go_num, l, Lib.hid ⟨HI.out.1, HS.out, HO6.out⟩, hE6⟩
        case measure => simp [intOf]; omega
      · have HS := Lib.hid hst
        have hv' := (okV_iff x y).1 hv
        have HV := Lib.hid hv
        clear hv hst
        go_wp2_with fail
        refine (vp_yes _ _ _ HV.out).mono ?_; rintro e w6 ⟨rfl, hg6⟩
        have hE6 := hE.trans (ext_of_grown hg6)
        have HO6 := Lib.hid ((ext_of_grown hg6).owns HI.out.2.2)
        have d0 := hE6.keeps c0'
        have d1 := hE6.keeps c1'
        clear c0 c1 hg6
        go_wp2_with fail
        refine (ins_ref l _ x y _ (owns_zero HO6.out) HI.out.1 hv').mono ?_
        rintro e w7 ⟨v7, l7, rfl, n7, m7, o7, e7⟩
        have H7 := Lib.hid (And.intro n7 (And.intro (show ∀ t, memB l7 t = memB (s.take (k + 1)) t from fun t => (m7 t).trans (by rw [HS.out, ← HI.out.2.1])) (owns_low o7 hE6.2.2)))
        clear n7 m7 o7
        go_wp2_with fail
        go_roundw
        case rel => exact ⟨k + 1, by omega, by go_num, l7, H7, hE6.trans e7⟩
        case measure => simp [intOf]; omega
    · have hkn : k = n := by omega
      have hall : s.take k = s := by rw [hkn, HN.out]; exact List.take_length
      have HS := Lib.hid (show ∀ t, memB l t = memB s t by have := HI.out.2.1; rwa [hall] at this)
      clear hall hkn
      go_wp2_with fail
      go_ret
      exact ⟨_, l, rfl, HI.out.1, HS.out, HI.out.2.2, hE⟩
theorem norm_ref (s : List (Int × Int)) (v : Value) (w : World) (h : Rd w v s) : Calls Tryz.prog 43 #[v] w (SetPost (memB s) w) :=
  (norm_refN s v w h).mono fun _ _ ⟨v, l, a, b, c, d, e⟩ => ⟨v, l, a, b, c, owns_zero d, e⟩
end Go.Proofs.YtnckdopphimgoaaGreat
/- Contracts of the reference's ValidDays. -/
namespace Go.Proofs.YtnckdopphimgoaaGreat
open Go.ChangeShapes Go.WideShapes Go.ChangeAt Go.RowKit

end Go.Proofs.YtnckdopphimgoaaGreat
/- Contracts of period's ValidDays and of the reference's Includes. -/
namespace Go.Proofs.YtnckdopphimgoaaGreat
open Go.ChangeShapes Go.WideShapes Go.ChangeAt Go.RowKit

set_option maxHeartbeats 1000000 in
theorem inc_ref (a b t : Int) (w : World) : Calls Tryz.prog 42 #[pv a b, .int .i64 t] w fun e w' => e = .returned (.bool (incB a b t)) ∧ Grown w w' := by
  cases h : okV a b
  · have HV := Lib.hid h
    have HD := Lib.hid (show incB a b t = false by simp [incB, h])
    clear h
    go_enter Tryz.func42, Tryz.ntmps42
    go_wp2_with fail
    refine (vp_no _ _ _ HV.out).mono ?_; rintro e w1 ⟨rfl, hg⟩
    go_wp2_with fail
    go_ret
    exact ⟨ret_bool HD.out.symm, grown_trans ((Grown.refl _).alloc _ _) hg⟩
  · have HV := Lib.hid h
    have HD := Lib.hid (show incB a b t = (decide (a ≤ t) && decide (t < b)) by rw [Bool.eq_iff_iff]; simp [incB, h])
    clear h
    go_enter Tryz.func42, Tryz.ntmps42
    go_wp2_with fail
    refine (vp_yes _ _ _ HV.out).mono ?_; rintro e w1 ⟨rfl, hg⟩
    obtain ⟨hc, hf⟩ := gcell hg
    go_wp2
    all_goals
      go_ret
      exact ⟨ret_bool (by rw [HD.out, Bool.eq_iff_iff]; simp [*] <;> omega), grown_trans ((Grown.refl _).alloc _ _) hg⟩
end Go.Proofs.YtnckdopphimgoaaGreat
/- Five small numbers: what the laws' builders take. -/
namespace Go.Proofs.YtnckdopphimgoaaGreat
open Go.ChangeShapes Go.WideShapes Go.ChangeAt Go.RowKit

structure Five where
  a : Int
  b : Int
  c : Int
  d : Int
  e : Int
abbrev Five.v (x : Five) : Value := .agg #[.int .u16 x.a, .int .u16 x.b, .int .u16 x.c, .int .u16 x.d, .int .u16 x.e]
def Five.ok (x : Five) : Prop := (0 ≤ x.a ∧ x.a ≤ 65535) ∧ (0 ≤ x.b ∧ x.b ≤ 65535) ∧ (0 ≤ x.c ∧ x.c ≤ 65535) ∧ (0 ≤ x.d ∧ x.d ≤ 65535) ∧ (0 ≤ x.e ∧ x.e ≤ 65535)
instance : Enc Five := ⟨5, by decide, fun x => [.int .u16 x.a, .int .u16 x.b, .int .u16 x.c, .int .u16 x.d, .int .u16 x.e], fun _ => rfl, fun a u h => by simp at h; rcases h with rfl | rfl | rfl | rfl | rfl <;> rfl⟩
theorem rd_Five {w : World} {ad : Option Addr} {n cap : Nat} {l : List Five} (h : RdG w (.slice ad n cap) l) (i : Nat) (hi : i < l.length) : ∃ g o, ad = some ⟨g, o, none⟩ ∧ w.cell? ⟨g, o + i * 5, none⟩ = some (.int .u16 l[i].a) ∧ w.cell? ⟨g, o + i * 5 + 1, none⟩ = some (.int .u16 l[i].b) ∧ w.cell? ⟨g, o + i * 5 + 2, none⟩ = some (.int .u16 l[i].c) ∧ w.cell? ⟨g, o + i * 5 + 3, none⟩ = some (.int .u16 l[i].d) ∧ w.cell? ⟨g, o + i * 5 + 4, none⟩ = some (.int .u16 l[i].e) := by
  obtain ⟨g, o, e, c⟩ := h.at i hi
  exact ⟨g, o, e, c 0 _ rfl, c 1 _ rfl, c 2 _ rfl, c 3 _ rfl, c 4 _ rfl⟩
end Go.Proofs.YtnckdopphimgoaaGreat
/- A slice «as» an argument, whatever its elements are. -/
namespace Go.Proofs.YtnckdopphimgoaaGreat
open Go.ChangeShapes Go.WideShapes Go.ChangeAt Go.RowKit Go.Joins

theorem wf_64 {a : Int} (h : (Lit.int .i64 a).wf = true) : -9223372036854775808 ≤ a ∧ a ≤ 9223372036854775807 := by
  have h1 : IntKind.i64.min = -9223372036854775808 := by decide
  have h2 : IntKind.i64.max = 9223372036854775807 := by decide
  simp [Lit.wf] at h
  omega
theorem wf_8 {a : Int} (h : (Lit.int .u8 a).wf = true) : 0 ≤ a ∧ a ≤ 255 := by
  have h1 : IntKind.u8.min = 0 := by decide
  have h2 : IntKind.u8.max = 255 := by decide
  simp [Lit.wf] at h
  omega
theorem wf_s8 {a : Int} (h : (Lit.int .i8 a).wf = true) : -128 ≤ a ∧ a ≤ 127 := by
  have h1 : IntKind.i8.min = -128 := by decide
  have h2 : IntKind.i8.max = 127 := by decide
  simp [Lit.wf] at h
  omega
section
variable {H : Type} {enc : TypeId × Value → H} {w : World} {base : Nat} {held : Bool}
set_option maxRecDepth 100000 in
/-- whatever the elements are -/
theorem open_G {α : Type} [Enc α] (P : α → Prop) {t e : TypeId} (hu : Tryz.prog.underlying t = some (.slice e)) (ce : Tryz.prog.cellsOf e = Enc.sz α)
    (hel : ∀ fuel cs y, cs.length = Enc.sz α → DataW.trod enc Tryz.prog w base (fun _ => true) held fuel e cs = some y → ∃ x : α, cs = Enc.cells x ∧ P x)
    {r : Reach} {b0 : Nat} {v : Value} {d : DataW H} {p : List MemPlace} (hv : Value.okWide Tryz.prog w r b0 t v) (h : DataW.Trod enc Tryz.prog w base (fun _ => true) held t v d p) : ∃ l : List α, RdG w v l ∧ ∀ x ∈ l, P x := by
  obtain ⟨a0, len, cap, rfl⟩ := okWide_slice hu hv
  obtain ⟨fuel, hf⟩ := h
  rcases Go.Deep.open_slice hu hf with ⟨hcs, _⟩ | ⟨a, len', cap', m, n, D, Pl, hcs, _, hl, hm, hmm, _, hx⟩
  · simp [Value.cells] at hcs
    obtain ⟨rfl, rfl, rfl⟩ := hcs
    exact ⟨[], rdG_nil w, fun x hx => by cases hx⟩
  · simp [Value.cells] at hcs
    obtain ⟨rfl, rfl, rfl⟩ := hcs
    simp only [if_true] at hmm
    subst hmm
    have each : ∀ i, i < m → ∃ x : α, (∀ j u, (Enc.cells x)[j]? = some u → w.cell? (a.add (i * Enc.sz α + j)) = some u) ∧ P x := by
      intro i hi
      obtain ⟨cs', h1, h2⟩ := hx i hi
      rw [ce] at h1
      obtain ⟨_, hlen, hcell⟩ := World.cells?_some h1
      obtain ⟨x, rfl, hp⟩ := hel _ _ _ hlen h2
      refine ⟨x, fun j u hu => ?_, hp⟩
      have hj : j < Enc.sz α := by have := (List.getElem?_eq_some_iff.1 hu).1; rw [Enc.len] at this; exact this
      have := hcell j hj
      rw [Go.Deep.add_add, hu] at this
      exact this
    by_cases hm0 : m = 0
    · subst hm0
      obtain rfl : len = 0 := by omega
      exact ⟨[], ⟨some a, 0, rfl, Nat.le_refl _, Nat.zero_le _, (fun _ => rfl), fun i h => by simp at h⟩, fun x hx => by cases hx⟩
    have hp : 0 < m := by omega
    have hspot : a.spot = none := by
      obtain ⟨x, h0, _⟩ := each 0 hp
      obtain ⟨u, hu⟩ : ∃ u, (Enc.cells x)[0]? = some u := ⟨_, List.getElem?_eq_getElem (by rw [Enc.len]; exact Enc.pos)⟩
      have h0 := h0 0 u hu
      simp only [Nat.zero_mul, Nat.add_zero, Addr.add, if_true] at h0
      cases hs : a.spot with
      | none => rfl
      | some s => unfold World.cell? at h0; simp [hs] at h0; split at h0 <;> cases h0
    obtain ⟨g, o, sp⟩ := a
    simp only at hspot
    subst hspot
    have hadd : ∀ j, (⟨g, o, none⟩ : Addr).add j = ⟨g, o + j, none⟩ := fun j => by unfold Addr.add; split <;> simp_all
    obtain ⟨x0, _⟩ := each 0 hp
    have hex : ∀ i, ∃ x : α, i < m → (∀ j u, (Enc.cells x)[j]? = some u → w.cell? ((⟨g, o, none⟩ : Addr).add (i * Enc.sz α + j)) = some u) ∧ P x := fun i => by
      by_cases hi : i < m
      · obtain ⟨x, hx⟩ := each i hi; exact ⟨x, fun _ => hx⟩
      · exact ⟨x0, fun h => absurd h hi⟩
    obtain ⟨val, hval⟩ : ∃ val : Nat → α, ∀ i, i < m → (∀ j u, (Enc.cells (val i))[j]? = some u → w.cell? ((⟨g, o, none⟩ : Addr).add (i * Enc.sz α + j)) = some u) ∧ P (val i) := ⟨fun i => Classical.choose (hex i), fun i => Classical.choose_spec (hex i)⟩
    refine ⟨(List.range len).map val, ⟨some ⟨g, o, none⟩, m, by simp, by simpa using hl, hm, (fun e => by cases e), fun i hi => ⟨g, o, rfl, fun j u hu => ?_⟩⟩, fun x hx => ?_⟩
    · have hi' : i < m := by simp at hi; omega
      have := (hval i hi').1 j u (by simpa using hu)
      rw [hadd] at this
      rw [Nat.add_assoc]; exact this
    · obtain ⟨i, hi, rfl⟩ := List.mem_map.1 hx
      exact (hval i (by have := List.mem_range.1 hi; omega)).2
set_option maxRecDepth 100000 in
/-- the same by the reading alone -/
theorem open_GT {α : Type} [Enc α] (P : α → Prop) {t e : TypeId} (hu : Tryz.prog.underlying t = some (.slice e)) (ce : Tryz.prog.cellsOf e = Enc.sz α)
    (hel : ∀ fuel cs y, cs.length = Enc.sz α → DataW.trod enc Tryz.prog w base (fun _ => true) held fuel e cs = some y → ∃ x : α, cs = Enc.cells x ∧ P x)
    {fuel : Nat} {cs : List Value} {y : DataW H × List MemPlace} (hf : DataW.trod enc Tryz.prog w base (fun _ => true) held fuel t cs = some y) : ∃ (v : Value) (l : List α), cs = [v] ∧ RdG w v l ∧ ∀ x ∈ l, P x := by
  rcases Go.Deep.open_slice hu hf with ⟨hcs, _⟩ | ⟨a, len, cap, m, n, D, Pl, hcs, _, hl, hm, hmm, _, hx⟩
  · exact ⟨_, [], hcs, rdG_nil w, fun x hx => by cases hx⟩
  · simp only [if_true] at hmm
    subst hmm
    have each : ∀ i, i < m → ∃ x : α, (∀ j u, (Enc.cells x)[j]? = some u → w.cell? (a.add (i * Enc.sz α + j)) = some u) ∧ P x := by
      intro i hi
      obtain ⟨cs', h1, h2⟩ := hx i hi
      rw [ce] at h1
      obtain ⟨_, hlen, hcell⟩ := World.cells?_some h1
      obtain ⟨x, rfl, hp⟩ := hel _ _ _ hlen h2
      refine ⟨x, fun j u hu => ?_, hp⟩
      have hj : j < Enc.sz α := by have := (List.getElem?_eq_some_iff.1 hu).1; rw [Enc.len] at this; exact this
      have := hcell j hj
      rw [Go.Deep.add_add, hu] at this
      exact this
    by_cases hm0 : m = 0
    · subst hm0
      obtain rfl : len = 0 := by omega
      exact ⟨_, [], hcs, ⟨some a, 0, rfl, Nat.le_refl _, Nat.zero_le _, (fun _ => rfl), fun i h => by simp at h⟩, fun x hx => by cases hx⟩
    have hp : 0 < m := by omega
    have hspot : a.spot = none := by
      obtain ⟨x, h0, _⟩ := each 0 hp
      obtain ⟨u, hu⟩ : ∃ u, (Enc.cells x)[0]? = some u := ⟨_, List.getElem?_eq_getElem (by rw [Enc.len]; exact Enc.pos)⟩
      have h0 := h0 0 u hu
      simp only [Nat.zero_mul, Nat.add_zero, Addr.add, if_true] at h0
      cases hs : a.spot with
      | none => rfl
      | some s => unfold World.cell? at h0; simp [hs] at h0; split at h0 <;> cases h0
    obtain ⟨g, o, sp⟩ := a
    simp only at hspot
    subst hspot
    have hadd : ∀ j, (⟨g, o, none⟩ : Addr).add j = ⟨g, o + j, none⟩ := fun j => by unfold Addr.add; split <;> simp_all
    obtain ⟨x0, _⟩ := each 0 hp
    have hex : ∀ i, ∃ x : α, i < m → (∀ j u, (Enc.cells x)[j]? = some u → w.cell? ((⟨g, o, none⟩ : Addr).add (i * Enc.sz α + j)) = some u) ∧ P x := fun i => by
      by_cases hi : i < m
      · obtain ⟨x, hx⟩ := each i hi; exact ⟨x, fun _ => hx⟩
      · exact ⟨x0, fun h => absurd h hi⟩
    obtain ⟨val, hval⟩ : ∃ val : Nat → α, ∀ i, i < m → (∀ j u, (Enc.cells (val i))[j]? = some u → w.cell? ((⟨g, o, none⟩ : Addr).add (i * Enc.sz α + j)) = some u) ∧ P (val i) := ⟨fun i => Classical.choose (hex i), fun i => Classical.choose_spec (hex i)⟩
    refine ⟨_, (List.range len).map val, hcs, ⟨some ⟨g, o, none⟩, m, by simp, by simpa using hl, hm, (fun e => by cases e), fun i hi => ⟨g, o, rfl, fun j u hu => ?_⟩⟩, fun x hx => ?_⟩
    · have hi' : i < m := by simp at hi; omega
      have := (hval i hi').1 j u (by simpa using hu)
      rw [hadd] at this
      rw [Nat.add_assoc]; exact this
    · obtain ⟨i, hi, rfl⟩ := List.mem_map.1 hx
      exact (hval i (by have := List.mem_range.1 hi; omega)).2
end
end Go.Proofs.YtnckdopphimgoaaGreat
