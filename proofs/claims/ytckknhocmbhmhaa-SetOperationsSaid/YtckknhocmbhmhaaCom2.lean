/- Contracts of the program's complement and common. -/
import Derived.Test.YtckknhocmbhmhaaCom
import Derived.Deep.RegionHeld3
namespace Go.Proofs.Ytckknhocmbhmhaa
open Go.ChangeShapes Go.WideShapes Go.ChangeAt Go.RowKit

def cplB (s : List (Int × Int)) (t : Int) : Bool := decide (0 ≤ t ∧ t < 1099511627776) && !memB s t
def andB (a b : List (Int × Int)) (t : Int) : Bool := memB a t && memB b t
def subB (a b : List (Int × Int)) (t : Int) : Bool := memB a t && !memB b t
set_option maxHeartbeats 4000000 in
theorem compl_per (s : List (Int × Int)) (v : Value) (w : World) (h : Rd w v s) (hN : NF s) : Calls Try.prog 34 #[v] w (SetPost (cplB s) w) := by
  obtain ⟨ad, cap, rfl, hc, hm, _, hx⟩ := h
  have HX := Lib.hid hx
  have HNF := Lib.hid hN
  have hb := hN.len
  obtain ⟨n, hn⟩ : ∃ n, n = s.length := ⟨_, rfl⟩
  have HN := Lib.hid hn
  rw [← hn]
  rw [← hn] at hb
  clear hx hn hc hm hN
  go_enter Try.func34, Try.ntmps34
  go_wp2_with fail
  go_loopw [3, 4, 9] (fun u f i wr => ∃ k : Nat, k ≤ n ∧ i = .int .i64 k ∧ ∃ z r, f = .int .i64 z ∧ Hid (GInv s k z r) ∧ Own w wr u r) (fun _ _ i _ => n - (intOf i).toNat)
  case atStart => exact ⟨0, by omega, rfl, 0, [], rfl, Lib.hid (GInv.start HNF.out), Own.nil _ _ (Ext.refl _)⟩
  case round =>
    obtain ⟨k, hk, rfl, z, r, rfl, HG, hO⟩ := hrel
    have hr := HG.out.nr.len
    by_cases hlt : k < n
    · have hkl : k < s.length := by rw [← HN.out]; exact hlt
      obtain ⟨g, o, rfl, c0', c1'⟩ := HX.out k hkl
      have c0 := hO.2.keeps c0'
      have c1 := hO.2.keeps c1'
      have hi1 : (k : Int) < (n : Int) := by omega
      obtain ⟨x, y, hxy⟩ : ∃ x y, s[k] = (x, y) := ⟨_, _, rfl⟩
      have hst := HG.out.step HNF.out hkl hxy
      rw [hxy] at c0 c1
      simp only at c0 c1
      clear c0' c1' hxy
      by_cases hz : z < x
      · rw [if_pos hz] at hst
        have HS := Lib.hid hst
        clear hst
        go_wp2_with (at_builtin; refine appR rfl _ _ rfl w _ r rfl ((hO.ext ((Ext.refl _).alloc _ _)).ext ((Ext.refl _).alloc _ _)) _ [(z, x)] rfl (rd_lit1 _ z x _ _ (by simp)) (by simp; omega) ?_; intro v' w' hO' hg'; have b1 := grow_cell hg' (kept ((Grown.refl _).alloc _ _) (al1 wr (.int .i64 x) (.int .i64 y) 30)) (fun kk hh => by have := (hO.1.lt kk hh).2; omega))
        go_roundw
        case rel => exact ⟨k + 1, by omega, by go_num, y, _, rfl, HS, hO'⟩
        case measure => simp [intOf]; omega
      · rw [if_neg hz, List.append_nil] at hst
        have HS := Lib.hid hst
        clear hst
        go_wp2_with fail
        go_roundw
        case rel => exact ⟨k + 1, by omega, by go_num, y, _, rfl, HS, hO.ext ((Ext.refl _).alloc _ _)⟩
        case measure => simp [intOf]; omega
    · have hkn : k = s.length := by have := HN.out; omega
      have hst := (show GInv s s.length z r from hkn ▸ HG.out).done
      clear hkn
      by_cases hz : z < 1099511627776
      · rw [if_pos hz] at hst
        have HS := Lib.hid hst
        clear hst
        go_wp2_with (at_builtin; refine appR rfl _ _ rfl w _ r rfl (hO.ext ((Ext.refl _).alloc _ _)) _ [(z, 1099511627776)] rfl (rd_lit1 _ z 1099511627776 _ _ rfl) (by simp; omega) ?_; intro v' w' hO' hg')
        go_ret
        exact ⟨_, _, rfl, HS.out.1, HS.out.2, hO'.zero, hO'.2⟩
      · rw [if_neg hz, List.append_nil] at hst
        have HS := Lib.hid hst
        clear hst
        go_wp2_with fail
        go_ret
        exact ⟨_, _, rfl, HS.out.1, HS.out.2, hO.zero, hO.2⟩
/-- the cells of the first period of a slice that is read, and the rest of it -/
theorem Rd.first {w : World} {v : Value} {x : List (Int × Int)} {a b : Int} (h : Rd w v ((a, b) :: x)) : ∃ g o cap, v = .slice (some ⟨g, o, none⟩) (x.length + 1) cap ∧ x.length + 1 ≤ cap ∧ cap ≤ maxLen ∧
    w.cell? ⟨g, o, none⟩ = some (.int .i64 a) ∧ w.cell? ⟨g, o + 1, none⟩ = some (.int .i64 b) ∧ (cap = 1 → Rd w (.slice (some ⟨g, o, none⟩) x.length (cap - 1)) x) ∧ (cap ≠ 1 → Rd w (.slice (some ⟨g, o + 2, none⟩) x.length (cap - 1)) x) := by
  obtain ⟨ad, cap, rfl, h1, h2, h3, h4⟩ := h
  obtain ⟨g, o, rfl, c0, c1⟩ := h4 0 (by simp)
  simp only [Nat.zero_mul, Nat.add_zero, List.getElem_cons_zero] at c0 c1
  have hl : x.length + 1 ≤ cap := by simpa using h1
  refine ⟨g, o, cap, rfl, hl, h2, c0, c1, fun hc => ⟨some ⟨g, o, none⟩, cap - 1, rfl, by omega, by omega, (fun e => by cases e), fun i hi => by omega⟩, fun hc => ⟨some ⟨g, o + 2, none⟩, cap - 1, rfl, by omega, by omega, (fun e => by cases e), fun i hi => ?_⟩⟩
  obtain ⟨g', o', e, d0, d1⟩ := h4 (i + 1) (by simp; omega)
  simp only [Option.some.injEq, Addr.mk.injEq, and_true] at e
  obtain ⟨rfl, rfl⟩ := e
  simp only [List.getElem_cons_succ] at d0 d1
  exact ⟨g, o + 2, rfl, by rw [show o + 2 + i * 2 = o + (i + 1) * 2 by omega]; exact d0, by rw [show o + 2 + i * 2 + 1 = o + (i + 1) * 2 + 1 by omega]; exact d1⟩
theorem setfar {X : World} {b c o p q : Nat} {u x y : Value} (hne : b ≠ c) (h : X.cell? ⟨c, o, none⟩ = some u) : ((X.setCell ⟨b, p, none⟩ x).setCell ⟨b, q, none⟩ y).cell? ⟨c, o, none⟩ = some u := by
  rw [World.cell?_setCell_far _ _ _ _ hne, World.cell?_setCell_far _ _ _ _ hne]; exact h
/-- a box that was made, behind a call that grows the world -/
theorem boxN {wr w3 : World} {x y : Value} {t : TypeId} (h : Grown (wr.alloc (.cells #[x, y] t)) w3) :
    w3.cell? ⟨wr.heap.size, 0, none⟩ = some x ∧ w3.cell? ⟨wr.heap.size, 1, none⟩ = some y ∧ w3.frozen? ⟨wr.heap.size, 0, none⟩ = false ∧ w3.frozen? ⟨wr.heap.size, 1, none⟩ = false ∧ wr.heap.size < w3.heap.size := by
  refine ⟨kept h (al0 _ _ _ _), kept h (al1 _ _ _ _), ?_, ?_, World.block_lt_of_cell? _ _ (kept h (al0 _ _ _ _))⟩
  · rw [h.2.1, frozen?_alloc_cells]; exact frozen_new _ _ _ (Nat.le_refl _)
  · rw [h.2.1, frozen?_alloc_cells]; exact frozen_new _ _ _ (Nat.le_refl _)
theorem Ext.set2 {w X : World} (h : Ext w X) (b o o' : Nat) (hb : w.heap.size ≤ b) (u v : Value) : Ext w ((X.setCell ⟨b, o, none⟩ u).setCell ⟨b, o', none⟩ v) := (h.setNew b o hb u).setNew b o' hb v
/-- a new box that holds a period, and all else as it was -/
def Bx (wr W : World) (B : Nat) (x y : Value) : Prop := Ext wr W ∧ W.cell? ⟨B, 0, none⟩ = some x ∧ W.cell? ⟨B, 1, none⟩ = some y
theorem bx_alloc {wr w3 : World} {x y : Value} {t : TypeId} (h : Grown wr w3) : Bx wr (w3.alloc (.cells #[x, y] t)) w3.heap.size x y := ⟨(ext_of_grown h).alloc _ _, al0 _ _ _ _, al1 _ _ _ _⟩
theorem bx_set {wr w3 : World} {p q x y : Value} {t : TypeId} (h : Grown (wr.alloc (.cells #[p, q] t)) w3) : Bx wr ((w3.setCell ⟨wr.heap.size, 0, none⟩ x).setCell ⟨wr.heap.size, 1, none⟩ y) wr.heap.size x y := by
  obtain ⟨n0, n1, _⟩ := boxN h
  refine ⟨((ext_of_grown ((Grown.refl wr).alloc _ _)).trans (ext_of_grown h)).set2 _ _ _ (Nat.le_refl _) _ _, ?_, ?_⟩
  · rw [World.cell?_setCell_other _ _ _ _ (by simp)]
    exact World.cell?_setCell_same _ _ _ n0
  · refine World.cell?_setCell_same _ _ _ (u := q) ?_
    rw [World.cell?_setCell_other _ _ _ _ (by simp)]; exact n1
theorem rd_if {w : World} {g o n cap : Nat} {x : List (Int × Int)} (h0 : cap = 1 → Rd w (.slice (some ⟨g, o, none⟩) n (cap - 1)) x) (h1 : cap ≠ 1 → Rd w (.slice (some ⟨g, o + 2, none⟩) n (cap - 1)) x) :
    Rd w (.slice (if cap = 1 then some ⟨g, o, none⟩ else some ⟨g, o + 2, none⟩) n (cap - 1)) x := by
  by_cases c : cap = 1
  · rw [if_pos c]; exact h0 c
  · rw [if_neg c]; exact h1 c
theorem Rd.drewN {w : World} {v : Value} {l : List (Int × Int)} (h : Rd w v l) (n : Nat) : Rd (w.drewN n) v l := h
theorem pis_at (a b c d x y : Int) (v : Bool) (w : World) (h : itB a b c d = v) (hx : itF a b c d = x) (hy : itT a b c d = y) : Calls Try.prog 40 #[pv a b, pv c d] w fun e w' => e = .returned (.tuple #[pv x y, .bool v]) ∧ Grown w w' := by
  have := is_per a b c d w; rwa [h, hx, hy] at this
set_option maxHeartbeats 8000000 in
theorem common_per (A B : List (Int × Int)) (va vb : Value) (w : World) (ha : Rd w va A) (hb : Rd w vb B) (nA : NF A) (nB : NF B) : Calls Try.prog 32 #[va, vb] w (SetPost (andB A B) w) := by
  have HA := Lib.hid ha
  have HB := Lib.hid hb
  have HNA := Lib.hid nA
  have HNB := Lib.hid nB
  obtain ⟨ada, capa, rfl, _⟩ := ha
  obtain ⟨adb, capb, rfl, _⟩ := hb
  clear nA nB
  go_enter Try.func32, Try.ntmps32
  go_wp2_with fail
  go_loopw [0, 1, 5] (fun p q u wr => ∃ x y r, Hid (CInv A B x y r) ∧ Hid (Rd w p x) ∧ Hid (Rd w q y) ∧ Own w wr u r) (fun p q _ _ => lenOf p + lenOf q)
  case atStart => exact ⟨A, B, [], Lib.hid (CInv.start HNA.out HNB.out), HA, HB, Own.nil _ _ (Ext.refl _)⟩
  case round =>
    obtain ⟨x, y, r, HC, HX, HY, hO⟩ := hrel
    have hr := HC.out.nr.len
    have hxl := HC.out.nx.len
    have hyl := HC.out.ny.len
    rcases x with _ | ⟨⟨a, b⟩, x⟩
    · have HS := Lib.hid (HC.out.done (Or.inl rfl))
      obtain ⟨ad0, cap0, rfl, _⟩ := HX.out
      obtain ⟨ad1, cap1, rfl, _⟩ := HY.out
      simp only [List.length_nil] at HX ⊢
      go_wp2_with fail
      go_ret
      exact ⟨_, r, rfl, HS.out.1, HS.out.2, hO.zero, hO.2⟩
    · rcases y with _ | ⟨⟨c, d⟩, y⟩
      · have HS := Lib.hid (HC.out.done (Or.inr rfl))
        obtain ⟨ad0, cap0, rfl, _⟩ := HX.out
        obtain ⟨ad1, cap1, rfl, _⟩ := HY.out
        simp only [List.length_nil, List.length_cons] at HX HY ⊢
        go_wp2_with fail
        go_ret
        exact ⟨_, r, rfl, HS.out.1, HS.out.2, hO.zero, hO.2⟩
      · obtain ⟨g0, o0, cap0, rfl, l0, m0, c0, c1, t0, t1⟩ := HX.out.first
        obtain ⟨g1, o1, cap1, rfl, l1, m1, d0, d1, t2, t3⟩ := HY.out.first
        have HL := Lib.hid (fun e => HC.out.left (a := a) (b := b) (c := c) (d := d) e)
        have HR := Lib.hid (fun e => HC.out.right (a := a) (b := b) (c := c) (d := d) e)
        have HT0 := Lib.hid t0
        have HT1 := Lib.hid t1
        have HT2 := Lib.hid t2
        have HT3 := Lib.hid t3
        have K0 := Lib.hid (hO.2.keeps c0)
        have K1 := Lib.hid (hO.2.keeps c1)
        have KW1 := Lib.hid c1
        have K2 := Lib.hid (hO.2.keeps d0)
        have K3 := Lib.hid (hO.2.keeps d1)
        have KW3 := Lib.hid d1
        have z0 : g0 < wr.heap.size := World.block_lt_of_cell? _ _ (hO.2.keeps c0)
        have z1 : g1 < wr.heap.size := World.block_lt_of_cell? _ _ (hO.2.keeps d0)
        have hxn : x.length + 1 ≤ 549755813889 := by simpa using hxl
        have hyn : y.length + 1 ≤ 549755813889 := by simpa using hyl
        unfold maxLen at m0 m1
        obtain ⟨nx, hnx⟩ : ∃ n, n = x.length := ⟨_, rfl⟩
        obtain ⟨ny, hny⟩ : ∃ n, n = y.length := ⟨_, rfl⟩
        rw [← hnx] at l0 hxn ⊢
        rw [← hny] at l1 hyn ⊢
        have HNX := Lib.hid hnx
        have HNY := Lib.hid hny
        have e0 : (0 : Int) < (nx : Int) + 1 := by omega
        have e1 : (0 : Int) < (ny : Int) + 1 := by omega
        clear hnx hny t0 t1 t2 t3 HC hxl hyl HA HB HNA HNB c0 c1 d0 d1
        cases hi : itB a b c d
        · have HI := Lib.hid hi
          have HP := Lib.hid (show partL a b c d = [] by simp [partL, hi])
          have HF := Lib.hid (it_no hi)
          clear hi
          go_wp2_with fail
          go_region_held3 (fun w' => w'.cell? ⟨g0, o0, none⟩ = some (.int .i64 a) ∧ w'.cell? ⟨g0, o0 + 1, none⟩ = some (.int .i64 b) ∧ w'.cell? ⟨g1, o1, none⟩ = some (.int .i64 c) ∧ w'.cell? ⟨g1, o1 + 1, none⟩ = some (.int .i64 d)) (first | exact ⟨K0.out, K1.out, K2.out, K3.out⟩ | exact ⟨kept ((Grown.refl wr).alloc _ _) K0.out, kept ((Grown.refl wr).alloc _ _) K1.out, kept ((Grown.refl wr).alloc _ _) K2.out, kept ((Grown.refl wr).alloc _ _) K3.out⟩ | exact ⟨setfar (Nat.ne_of_gt z0) f0, setfar (Nat.ne_of_gt z0) f1, setfar (Nat.ne_of_gt z1) f2, setfar (Nat.ne_of_gt z1) f3⟩ | go_keep)
            (first | (go_at_call 40; refine (pis_at a b c d 0 0 false _ HI.out HF.out.1 HF.out.2).mono ?_; rintro e w3 ⟨rfl, hg3'⟩; first | (have hg3 : Grown wr w3 := hg3'; have f0 := kept hg3 K0.out; have f1 := kept hg3 K1.out; have f2 := kept hg3 K2.out; have f3 := kept hg3 K3.out) | (have hg3 : Grown wr w3 := grown_trans ((Grown.refl wr).alloc _ _) hg3'; obtain ⟨n0, n1, n2, n3, n4⟩ := boxN (wr := wr) (x := .int .i64 0) (y := .int .i64 0) (t := 30) hg3'; have f0 := kept hg3 K0.out; have f1 := kept hg3 K1.out; have f2 := kept hg3 K2.out; have f3 := kept hg3 K3.out)))
          all_goals
            first
              | (have hbx := bx_set (wr := wr) (w3 := w3) (p := .int .i64 0) (q := .int .i64 0) (x := .int .i64 0) (y := .int .i64 0) (t := 30) hg3'; generalize ((w3.setCell ⟨wr.heap.size, 0, none⟩ (Value.int IntKind.i64 0)).setCell ⟨wr.heap.size, 1, none⟩ (Value.int IntKind.i64 0)) = W3 at hbx ⊢)
              | (have hbx := bx_alloc (wr := wr) (w3 := w3) (x := .int .i64 0) (y := .int .i64 0) (t := 30) hg3; generalize (w3.alloc (Obj.cells #[Value.int IntKind.i64 0, Value.int IntKind.i64 0] 30)) = W3 at hbx ⊢)
            obtain ⟨hX, _, _⟩ := hbx
            have F1 := hX.keeps K1.out
            have F3 := hX.keeps K3.out
            have hO3 := hO.ext hX
            clear hO hg3 hg3'
            by_cases e : b < d
            · have HS := Lib.hid (HL.out e)
              rw [HP.out, List.append_nil] at HS
              go_wp2_with fail
              go_quiet (fail)
              go_wp2_with fail
              exact ⟨⟨x, (c, d) :: y, r, HS, Lib.hid (by rw [HNX.out]; exact rd_if HT0.out HT1.out), Lib.hid (by rw [HNY.out]; exact HY.out), hO3.drewN nq⟩, by simp [lenOf]⟩
            · have HS := Lib.hid (HR.out (by omega))
              rw [HP.out, List.append_nil] at HS
              go_wp2_with fail
              go_quiet (fail)
              go_wp2_with fail
              exact ⟨⟨(a, b) :: x, y, r, HS, Lib.hid (by rw [HNX.out]; exact HX.out), Lib.hid (by rw [HNY.out]; exact rd_if HT2.out HT3.out), hO3.drewN nq⟩, by simp [lenOf]⟩
        · have HI := Lib.hid hi
          have HP := Lib.hid (show partL a b c d = [(itF a b c d, itT a b c d)] by simp [partL, hi])
          clear hi
          obtain ⟨x0, hx0⟩ : ∃ z, z = itF a b c d := ⟨_, rfl⟩
          obtain ⟨y0, hy0⟩ : ∃ z, z = itT a b c d := ⟨_, rfl⟩
          have HF := Lib.hid (And.intro hx0.symm hy0.symm)
          rw [← hx0, ← hy0] at HP
          clear hx0 hy0
          go_wp2_with fail
          go_region_held3 (fun w' => w'.cell? ⟨g0, o0, none⟩ = some (.int .i64 a) ∧ w'.cell? ⟨g0, o0 + 1, none⟩ = some (.int .i64 b) ∧ w'.cell? ⟨g1, o1, none⟩ = some (.int .i64 c) ∧ w'.cell? ⟨g1, o1 + 1, none⟩ = some (.int .i64 d)) (first | exact ⟨K0.out, K1.out, K2.out, K3.out⟩ | exact ⟨kept ((Grown.refl wr).alloc _ _) K0.out, kept ((Grown.refl wr).alloc _ _) K1.out, kept ((Grown.refl wr).alloc _ _) K2.out, kept ((Grown.refl wr).alloc _ _) K3.out⟩ | exact ⟨setfar (Nat.ne_of_gt z0) f0, setfar (Nat.ne_of_gt z0) f1, setfar (Nat.ne_of_gt z1) f2, setfar (Nat.ne_of_gt z1) f3⟩ | go_keep)
            (first | (go_at_call 40; refine (pis_at a b c d x0 y0 true _ HI.out HF.out.1 HF.out.2).mono ?_; rintro e w3 ⟨rfl, hg3'⟩; first | (have hg3 : Grown wr w3 := hg3'; have f0 := kept hg3 K0.out; have f1 := kept hg3 K1.out; have f2 := kept hg3 K2.out; have f3 := kept hg3 K3.out) | (have hg3 : Grown wr w3 := grown_trans ((Grown.refl wr).alloc _ _) hg3'; obtain ⟨n0, n1, n2, n3, n4⟩ := boxN (wr := wr) (x := .int .i64 0) (y := .int .i64 0) (t := 30) hg3'; have f0 := kept hg3 K0.out; have f1 := kept hg3 K1.out; have f2 := kept hg3 K2.out; have f3 := kept hg3 K3.out)))
          all_goals
            first
              | (have hbx := bx_set (wr := wr) (w3 := w3) (p := .int .i64 0) (q := .int .i64 0) (x := .int .i64 x0) (y := .int .i64 y0) (t := 30) hg3'; generalize ((w3.setCell ⟨wr.heap.size, 0, none⟩ (Value.int IntKind.i64 x0)).setCell ⟨wr.heap.size, 1, none⟩ (Value.int IntKind.i64 y0)) = W3 at hbx ⊢)
              | (have hbx := bx_alloc (wr := wr) (w3 := w3) (x := .int .i64 x0) (y := .int .i64 y0) (t := 30) hg3; generalize (w3.alloc (Obj.cells #[Value.int IntKind.i64 x0, Value.int IntKind.i64 y0] 30)) = W3 at hbx ⊢)
            obtain ⟨hX, b0, b1⟩ := hbx
            have F1 := hX.keeps K1.out
            have F3 := hX.keeps K3.out
            have hO3 := hO.ext hX
            clear hO hg3 hg3'
            by_cases e : b < d
            · have HS := Lib.hid (HL.out e)
              rw [HP.out] at HS
              go_wp2_with (at_builtin; refine appR rfl _ _ rfl w _ r rfl (hO3.ext ((Ext.refl _).alloc _ _)) _ [(x0, y0)] rfl (rd_lit1 _ x0 y0 _ _ rfl) (by simp; omega) ?_; intro v' w' hO' hg'; have F1' := hO'.2.keeps KW1.out; have F3' := hO'.2.keeps KW3.out)
              go_quiet (fail)
              go_wp2_with fail
              exact ⟨⟨x, (c, d) :: y, r ++ [(x0, y0)], HS, Lib.hid (by rw [HNX.out]; exact rd_if HT0.out HT1.out), Lib.hid (by rw [HNY.out]; exact HY.out), hO'.drewN nq⟩, by simp [lenOf]⟩
            · have HS := Lib.hid (HR.out (by omega))
              rw [HP.out] at HS
              go_wp2_with (at_builtin; refine appR rfl _ _ rfl w _ r rfl (hO3.ext ((Ext.refl _).alloc _ _)) _ [(x0, y0)] rfl (rd_lit1 _ x0 y0 _ _ rfl) (by simp; omega) ?_; intro v' w' hO' hg'; have F1' := hO'.2.keeps KW1.out; have F3' := hO'.2.keeps KW3.out)
              go_quiet (fail)
              go_wp2_with fail
              exact ⟨⟨(a, b) :: x, y, r ++ [(x0, y0)], HS, Lib.hid (by rw [HNX.out]; exact HX.out), Lib.hid (by rw [HNY.out]; exact rd_if HT2.out HT3.out), hO'.drewN nq⟩, by simp [lenOf]⟩
end Go.Proofs.Ytckknhocmbhmhaa
