/- Slices of rows, of numbers and of five numbers, «as» arguments. -/
import Derived.Test.YtnckdopphimgoaaZz14
import Derived.Test.YtnckdopphimgoaaZz15
import Derived.Test.YtnckdopphimgoaaZz20
namespace Go.Proofs.Ytnckdopphimgoaa
open Go.ChangeShapes Go.WideShapes Go.ChangeAt Go.RowKit Go.Joins

section
variable {H : Type} {enc : TypeId × Value → H} {w : World} {base : Nat} {held : Bool}
theorem el8_I (fuel : Nat) (cs : List Value) (y : DataW H × List MemPlace) (h : DataW.trod enc Try.prog w base (fun _ => true) held fuel 3 cs = some y) : ∃ x : Int, cs = Enc.cells x ∧ True := by
  obtain ⟨a, e, _, _⟩ := DataW.trod_int Try.underlying3 h
  exact ⟨a, e, trivial⟩
set_option maxRecDepth 100000 in
theorem el8_V (fuel : Nat) (cs : List Value) (y : DataW H × List MemPlace) (hl : cs.length = 3) (h : DataW.trod enc Try.prog w base (fun _ => true) held fuel 42 cs = some y) : ∃ x : V, cs = Enc.cells x ∧ True := by
  obtain ⟨xs, k, _, _, _, hxl, hff⟩ := DataW.trod_struct Try.underlying42 h
  have hxl3 : xs.length = 3 := hxl
  match cs, hl with
  | [v0, v1, v2], _ =>
    have g0 := hff 0 _ rfl
    have g1 := hff 1 _ rfl
    have g2 := hff 2 _ rfl
    obtain ⟨y0, q0⟩ : ∃ y, xs[0]? = some y := ⟨_, List.getElem?_eq_getElem (by omega)⟩
    obtain ⟨y1, q1⟩ : ∃ y, xs[1]? = some y := ⟨_, List.getElem?_eq_getElem (by omega)⟩
    obtain ⟨y2, q2⟩ : ∃ y, xs[2]? = some y := ⟨_, List.getElem?_eq_getElem (by omega)⟩
    rw [q0] at g0
    rw [q1] at g1
    rw [q2] at g2
    have k0 : Try.prog.cellsOf 3 = 1 := by kernel_rfl
    have k1 : Try.prog.cellsOf 2 = 1 := by kernel_rfl
    have k2 : Try.prog.cellsOf 9 = 1 := by kernel_rfl
    have h0' : DataW.trod enc Try.prog w base (fun _ => true) held k 3 (([v0, v1, v2].drop 0).take (Try.prog.cellsOf 3)) = some y0 := g0
    rw [k0] at h0'
    have p0 : DataW.trod enc Try.prog w base (fun _ => true) held k 3 [v0] = some y0 := h0'
    have h1' : DataW.trod enc Try.prog w base (fun _ => true) held k 2 (([v0, v1, v2].drop 1).take (Try.prog.cellsOf 2)) = some y1 := g1
    rw [k1] at h1'
    have p1 : DataW.trod enc Try.prog w base (fun _ => true) held k 2 [v1] = some y1 := h1'
    have h2' : DataW.trod enc Try.prog w base (fun _ => true) held k 9 (([v0, v1, v2].drop 2).take (Try.prog.cellsOf 9)) = some y2 := g2
    rw [k2] at h2'
    have p2 : DataW.trod enc Try.prog w base (fun _ => true) held k 9 [v2] = some y2 := h2'
    obtain ⟨z0, f0, _, _⟩ := DataW.trod_int Try.underlying3 p0
    obtain ⟨z1, f1, _, _⟩ := DataW.trod_int Try.underlying2 p1
    obtain ⟨z2, f2, _, _⟩ := DataW.trod_string Try.underlying9 p2
    obtain rfl := List.cons.inj f0 |>.1
    obtain rfl := List.cons.inj f1 |>.1
    obtain rfl := List.cons.inj f2 |>.1
    exact ⟨⟨z0, z1, z2.data.toList⟩, by simp [Enc.cells], trivial⟩
set_option maxRecDepth 100000 in
theorem el8_P (fuel : Nat) (cs : List Value) (y : DataW H × List MemPlace) (hl : cs.length = 2) (h : DataW.trod enc Try.prog w base (fun _ => true) held fuel 47 cs = some y) : ∃ x : P, cs = Enc.cells x ∧ RdRow w x := by
  obtain ⟨xs, k, _, _, _, hxl, hff⟩ := DataW.trod_struct Try.underlying47 h
  have hxl2 : xs.length = 2 := hxl
  match cs, hl with
  | [v0, v1], _ =>
    have g0 := hff 0 _ rfl
    have g1 := hff 1 _ rfl
    obtain ⟨y0, q0⟩ : ∃ y, xs[0]? = some y := ⟨_, List.getElem?_eq_getElem (by omega)⟩
    obtain ⟨y1, q1⟩ : ∃ y, xs[1]? = some y := ⟨_, List.getElem?_eq_getElem (by omega)⟩
    rw [q0] at g0
    rw [q1] at g1
    have k0 : Try.prog.cellsOf 26 = 1 := by kernel_rfl
    have k1 : Try.prog.cellsOf 29 = 1 := by kernel_rfl
    have h0' : DataW.trod enc Try.prog w base (fun _ => true) held k 26 (([v0, v1].drop 0).take (Try.prog.cellsOf 26)) = some y0 := g0
    rw [k0] at h0'
    have p0 : DataW.trod enc Try.prog w base (fun _ => true) held k 26 [v0] = some y0 := h0'
    have h1' : DataW.trod enc Try.prog w base (fun _ => true) held k 29 (([v0, v1].drop 1).take (Try.prog.cellsOf 29)) = some y1 := g1
    rw [k1] at h1'
    have p1 : DataW.trod enc Try.prog w base (fun _ => true) held k 29 [v1] = some y1 := h1'
    obtain ⟨u0, l0, f0, r0, _⟩ := open_GT (fun _ : V => True) Try.underlying26 (by kernel_rfl) (fun f cs y hl => el8_V f cs y hl) p0
    obtain ⟨u1, l1, f1, r1, _⟩ := open_GT (fun _ : Int => True) Try.underlying29 (by kernel_rfl) (fun f cs y _ => el8_I f cs y) p1
    obtain rfl := List.cons.inj f0 |>.1
    obtain rfl := List.cons.inj f1 |>.1
    obtain ⟨a0, c0, rfl, _, _⟩ := r0.shape
    obtain ⟨a1, c1, rfl, _, _⟩ := r1.shape
    exact ⟨⟨⟨a0, l0.length, c0, a1, l1.length, c1⟩, ⟨l0, l1⟩⟩, rfl, r0, r1⟩
set_option maxRecDepth 100000 in
theorem el8_F (fuel : Nat) (cs : List Value) (y : DataW H × List MemPlace) (hl : cs.length = 5) (h : DataW.trod enc Try.prog w base (fun _ => true) held fuel 39 cs = some y) : ∃ x : Five, cs = Enc.cells x ∧ x.ok := by
  obtain ⟨xs, k, _, _, _, hxl, hff⟩ := DataW.trod_array Try.underlying39 h
  have k0 : Try.prog.cellsOf 38 = 1 := by kernel_rfl
  rw [k0] at hff
  match cs, hl with
  | [v0, v1, v2, v3, v4], _ =>
    have one : ∀ i v, i < 5 → (([v0, v1, v2, v3, v4].drop (i * 1)).take 1) = [v] → ∃ z : Int, v = .int .u16 z ∧ 0 ≤ z ∧ z ≤ 65535 := by
      intro i v hi hv
      have g := hff i hi
      rw [hv] at g
      obtain ⟨yy, q⟩ : ∃ y, xs[i]? = some y := ⟨_, List.getElem?_eq_getElem (by omega)⟩
      rw [q] at g
      obtain ⟨z, f, _, wz⟩ := DataW.trod_int Try.underlying38 g
      have h1 : IntKind.u16.min = 0 := by decide
      have h2 : IntKind.u16.max = 65535 := by decide
      simp [Lit.wf] at wz
      exact ⟨z, (List.cons.inj f).1, by omega, by omega⟩
    obtain ⟨z0, rfl, b0⟩ := one 0 _ (by decide) rfl
    obtain ⟨z1, rfl, b1⟩ := one 1 _ (by decide) rfl
    obtain ⟨z2, rfl, b2⟩ := one 2 _ (by decide) rfl
    obtain ⟨z3, rfl, b3⟩ := one 3 _ (by decide) rfl
    obtain ⟨z4, rfl, b4⟩ := one 4 _ (by decide) rfl
    exact ⟨⟨z0, z1, z2, z3, z4⟩, rfl, b0, b1, b2, b3, b4⟩
set_option maxRecDepth 100000 in
theorem open_nums {r : Reach} {b0 : Nat} {v : Value} {d : DataW H} {p : List MemPlace} (hv : Value.okWide Try.prog w r b0 29 v) (h : DataW.Trod enc Try.prog w base (fun _ => true) held 29 v d p) : ∃ l : List Int, RdG w v l :=
  let ⟨l, h1, _⟩ := open_G (fun _ : Int => True) Try.underlying29 (by kernel_rfl) (fun f cs y _ => el8_I f cs y) hv h
  ⟨l, h1⟩
set_option maxRecDepth 100000 in
theorem open_fives {r : Reach} {b0 : Nat} {v : Value} {d : DataW H} {p : List MemPlace} (hv : Value.okWide Try.prog w r b0 22 v) (h : DataW.Trod enc Try.prog w base (fun _ => true) held 22 v d p) : ∃ l : List Five, RdG w v l ∧ ∀ x ∈ l, x.ok :=
  open_G Five.ok Try.underlying22 (by kernel_rfl) (fun f cs y hl => el8_F f cs y hl) hv h
end
end Go.Proofs.Ytnckdopphimgoaa
/- Slices of tuples «as» arguments. -/
namespace Go.Proofs.Ytnckdopphimgoaa
open Go.ChangeShapes Go.WideShapes Go.ChangeAt Go.RowKit Go.Joins

theorem wf_16 {a : Int} (h : (Lit.int .u16 a).wf = true) : 0 ≤ a ∧ a ≤ 65535 := by
  have h1 : IntKind.u16.min = 0 := by decide
  have h2 : IntKind.u16.max = 65535 := by decide
  simp [Lit.wf] at h
  omega

section
variable {H : Type} {enc : TypeId × Value → H} {w : World} {base : Nat} {held : Bool}
set_option maxRecDepth 100000 in
theorem el10_per (fuel : Nat) (v1 v2 : Value) (y : DataW H × List MemPlace) (h : DataW.trod enc Try.prog w base (fun _ => true) held fuel 28 [v1, v2] = some y) : ∃ a b : Int, v1 = .int .i64 a ∧ v2 = .int .i64 b := by
  obtain ⟨xs, k, _, _, _, hxl, hff⟩ := DataW.trod_struct Try.underlying28 h
  have hxl2 : xs.length = 2 := hxl
  have g0 := hff 0 _ rfl
  have g1 := hff 1 _ rfl
  obtain ⟨y0, q0⟩ : ∃ y, xs[0]? = some y := ⟨_, List.getElem?_eq_getElem (by omega)⟩
  obtain ⟨y1, q1⟩ : ∃ y, xs[1]? = some y := ⟨_, List.getElem?_eq_getElem (by omega)⟩
  rw [q0] at g0
  rw [q1] at g1
  have k0 : Try.prog.cellsOf 3 = 1 := by kernel_rfl
  have h0' : DataW.trod enc Try.prog w base (fun _ => true) held k 3 (([v1, v2].drop 0).take (Try.prog.cellsOf 3)) = some y0 := g0
  rw [k0] at h0'
  have p0 : DataW.trod enc Try.prog w base (fun _ => true) held k 3 [v1] = some y0 := h0'
  have h1' : DataW.trod enc Try.prog w base (fun _ => true) held k 3 (([v1, v2].drop 1).take (Try.prog.cellsOf 3)) = some y1 := g1
  rw [k0] at h1'
  have p1 : DataW.trod enc Try.prog w base (fun _ => true) held k 3 [v2] = some y1 := h1'
  obtain ⟨z0, f0, _, _⟩ := DataW.trod_int Try.underlying3 p0
  obtain ⟨z1, f1, _, _⟩ := DataW.trod_int Try.underlying3 p1
  exact ⟨z0, z1, (List.cons.inj f0).1, (List.cons.inj f1).1⟩
set_option maxRecDepth 100000 in
theorem el10_T (fuel : Nat) (cs : List Value) (y : DataW H × List MemPlace) (hl : cs.length = 4) (h : DataW.trod enc Try.prog w base (fun _ => true) held fuel 31 cs = some y) : ∃ x : TP, cs = Enc.cells x ∧ RdT w x := by
  obtain ⟨xs, k, _, _, _, hxl, hff⟩ := DataW.trod_struct Try.underlying31 h
  have hxl3 : xs.length = 3 := hxl
  match cs, hl with
  | [v0, v1, v2, v3], _ =>
    have g0 := hff 0 _ rfl
    have g1 := hff 1 _ rfl
    have g2 := hff 2 _ rfl
    obtain ⟨y0, q0⟩ : ∃ y, xs[0]? = some y := ⟨_, List.getElem?_eq_getElem (by omega)⟩
    obtain ⟨y1, q1⟩ : ∃ y, xs[1]? = some y := ⟨_, List.getElem?_eq_getElem (by omega)⟩
    obtain ⟨y2, q2⟩ : ∃ y, xs[2]? = some y := ⟨_, List.getElem?_eq_getElem (by omega)⟩
    rw [q0] at g0
    rw [q1] at g1
    rw [q2] at g2
    have k0 : Try.prog.cellsOf 26 = 1 := by kernel_rfl
    have k1 : Try.prog.cellsOf 28 = 2 := by kernel_rfl
    have k2 : Try.prog.cellsOf 29 = 1 := by kernel_rfl
    have h0' : DataW.trod enc Try.prog w base (fun _ => true) held k 26 (([v0, v1, v2, v3].drop 0).take (Try.prog.cellsOf 26)) = some y0 := g0
    rw [k0] at h0'
    have p0 : DataW.trod enc Try.prog w base (fun _ => true) held k 26 [v0] = some y0 := h0'
    have h1' : DataW.trod enc Try.prog w base (fun _ => true) held k 28 (([v0, v1, v2, v3].drop 1).take (Try.prog.cellsOf 28)) = some y1 := g1
    rw [k1] at h1'
    have p1 : DataW.trod enc Try.prog w base (fun _ => true) held k 28 [v1, v2] = some y1 := h1'
    have h2' : DataW.trod enc Try.prog w base (fun _ => true) held k 29 (([v0, v1, v2, v3].drop 3).take (Try.prog.cellsOf 29)) = some y2 := g2
    rw [k2] at h2'
    have p2 : DataW.trod enc Try.prog w base (fun _ => true) held k 29 [v3] = some y2 := h2'
    obtain ⟨u0, l0, f0, r0, _⟩ := open_GT (fun _ : V => True) Try.underlying26 (by kernel_rfl) (fun f cs y hl => el8_V f cs y hl) p0
    obtain ⟨a, b, rfl, rfl⟩ := el10_per _ _ _ _ p1
    obtain ⟨u1, l1, f1, r1, _⟩ := open_GT (fun _ : Int => True) Try.underlying29 (by kernel_rfl) (fun f cs y _ => el8_I f cs y) p2
    obtain rfl := List.cons.inj f0 |>.1
    obtain rfl := List.cons.inj f1 |>.1
    obtain ⟨a0, c0, rfl, _, _⟩ := r0.shape
    obtain ⟨a1, c1, rfl, _, _⟩ := r1.shape
    exact ⟨⟨⟨a0, l0.length, c0, a1, l1.length, c1⟩, ⟨l0, l1⟩, a, b⟩, rfl, r0, r1⟩
set_option maxRecDepth 100000 in
theorem open_tuples {r : Reach} {b0 : Nat} {v : Value} {d : DataW H} {p : List MemPlace} (hv : Value.okWide Try.prog w r b0 23 v) (h : DataW.Trod enc Try.prog w base (fun _ => true) held 23 v d p) : ∃ l : List TP, RdG w v l ∧ RdTs w l :=
  open_G (RdT w) Try.underlying23 (by kernel_rfl) (fun f cs y hl => el10_T f cs y hl) hv h
end
end Go.Proofs.Ytnckdopphimgoaa
