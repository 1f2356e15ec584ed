/- Slices of tuples «as» arguments. -/
import Derived.Test.YtnckdopphimgoaaGreatZz18
import Derived.Test.YtnckdopphimgoaaGreatZz44
namespace Go.Proofs.YtnckdopphimgoaaGreat
open Go.ChangeShapes Go.WideShapes Go.ChangeAt Go.RowKit Go.Joins

theorem wf_16 {a : Int} (h : (Lit.int .u16 a).wf = true) : 0 ≤ a ∧ a ≤ 65535 := by
  have h1 : IntKind.u16.min = 0 := by decide
  have h2 : IntKind.u16.max = 65535 := by decide
  simp [Lit.wf] at h
  omega

section
variable {H : Type} {enc : TypeId × Value → H} {w : World} {base : Nat} {held : Bool}
set_option maxRecDepth 100000 in
theorem el10_per (fuel : Nat) (v1 v2 : Value) (y : DataW H × List MemPlace) (h : DataW.trod enc Tryz.prog w base (fun _ => true) held fuel 40 [v1, v2] = some y) : ∃ a b : Int, v1 = .int .i64 a ∧ v2 = .int .i64 b := by
  obtain ⟨xs, k, _, _, _, hxl, hff⟩ := DataW.trod_struct Tryz.underlying40 h
  have hxl2 : xs.length = 2 := hxl
  have g0 := hff 0 _ rfl
  have g1 := hff 1 _ rfl
  obtain ⟨y0, q0⟩ : ∃ y, xs[0]? = some y := ⟨_, List.getElem?_eq_getElem (by omega)⟩
  obtain ⟨y1, q1⟩ : ∃ y, xs[1]? = some y := ⟨_, List.getElem?_eq_getElem (by omega)⟩
  rw [q0] at g0
  rw [q1] at g1
  have k0 : Tryz.prog.cellsOf 3 = 1 := by kernel_rfl
  have h0' : DataW.trod enc Tryz.prog w base (fun _ => true) held k 3 (([v1, v2].drop 0).take (Tryz.prog.cellsOf 3)) = some y0 := g0
  rw [k0] at h0'
  have p0 : DataW.trod enc Tryz.prog w base (fun _ => true) held k 3 [v1] = some y0 := h0'
  have h1' : DataW.trod enc Tryz.prog w base (fun _ => true) held k 3 (([v1, v2].drop 1).take (Tryz.prog.cellsOf 3)) = some y1 := g1
  rw [k0] at h1'
  have p1 : DataW.trod enc Tryz.prog w base (fun _ => true) held k 3 [v2] = some y1 := h1'
  obtain ⟨z0, f0, _, _⟩ := DataW.trod_int Tryz.underlying3 p0
  obtain ⟨z1, f1, _, _⟩ := DataW.trod_int Tryz.underlying3 p1
  exact ⟨z0, z1, (List.cons.inj f0).1, (List.cons.inj f1).1⟩
set_option maxRecDepth 100000 in
theorem el10_T (fuel : Nat) (cs : List Value) (y : DataW H × List MemPlace) (hl : cs.length = 4) (h : DataW.trod enc Tryz.prog w base (fun _ => true) held fuel 42 cs = some y) : ∃ x : TP, cs = Enc.cells x ∧ RdT w x := by
  obtain ⟨xs, k, _, _, _, hxl, hff⟩ := DataW.trod_struct Tryz.underlying42 h
  have hxl3 : xs.length = 3 := hxl
  match cs, hl with
  | [v0, v1, v2, v3], _ =>
    have g0 := hff 0 _ rfl
    have g1 := hff 1 _ rfl
    have g2 := hff 2 _ rfl
    obtain ⟨y0, q0⟩ : ∃ y, xs[0]? = some y := ⟨_, List.getElem?_eq_getElem (by omega)⟩
    obtain ⟨y1, q1⟩ : ∃ y, xs[1]? = some y := ⟨_, List.getElem?_eq_getElem (by omega)⟩
    obtain ⟨y2, q2⟩ : ∃ y, xs[2]? = some y := ⟨_, List.getElem?_eq_getElem (by omega)⟩
    rw [q0] at g0
    rw [q1] at g1
    rw [q2] at g2
    have k0 : Tryz.prog.cellsOf 33 = 1 := by kernel_rfl
    have k1 : Tryz.prog.cellsOf 40 = 2 := by kernel_rfl
    have k2 : Tryz.prog.cellsOf 34 = 1 := by kernel_rfl
    have h0' : DataW.trod enc Tryz.prog w base (fun _ => true) held k 33 (([v0, v1, v2, v3].drop 0).take (Tryz.prog.cellsOf 33)) = some y0 := g0
    rw [k0] at h0'
    have p0 : DataW.trod enc Tryz.prog w base (fun _ => true) held k 33 [v0] = some y0 := h0'
    have h1' : DataW.trod enc Tryz.prog w base (fun _ => true) held k 40 (([v0, v1, v2, v3].drop 1).take (Tryz.prog.cellsOf 40)) = some y1 := g1
    rw [k1] at h1'
    have p1 : DataW.trod enc Tryz.prog w base (fun _ => true) held k 40 [v1, v2] = some y1 := h1'
    have h2' : DataW.trod enc Tryz.prog w base (fun _ => true) held k 34 (([v0, v1, v2, v3].drop 3).take (Tryz.prog.cellsOf 34)) = some y2 := g2
    rw [k2] at h2'
    have p2 : DataW.trod enc Tryz.prog w base (fun _ => true) held k 34 [v3] = some y2 := h2'
    obtain ⟨u0, l0, f0, r0, _⟩ := open_GT (fun _ : V => True) Tryz.underlying33 (by kernel_rfl) (fun f cs y hl => el8_V f cs y hl) p0
    obtain ⟨a, b, rfl, rfl⟩ := el10_per _ _ _ _ p1
    obtain ⟨u1, l1, f1, r1, _⟩ := open_GT (fun _ : Int => True) Tryz.underlying34 (by kernel_rfl) (fun f cs y _ => el8_I f cs y) p2
    obtain rfl := List.cons.inj f0 |>.1
    obtain rfl := List.cons.inj f1 |>.1
    obtain ⟨a0, c0, rfl, _, _⟩ := r0.shape
    obtain ⟨a1, c1, rfl, _, _⟩ := r1.shape
    exact ⟨⟨⟨a0, l0.length, c0, a1, l1.length, c1⟩, ⟨l0, l1⟩, a, b⟩, rfl, r0, r1⟩
set_option maxRecDepth 100000 in
theorem open_tuples {r : Reach} {b0 : Nat} {v : Value} {d : DataW H} {p : List MemPlace} (hv : Value.okWide Tryz.prog w r b0 22 v) (h : DataW.Trod enc Tryz.prog w base (fun _ => true) held 22 v d p) : ∃ l : List TP, RdG w v l ∧ RdTs w l :=
  open_G (RdT w) Tryz.underlying22 (by kernel_rfl) (fun f cs y hl => el10_T f cs y hl) hv h
end
end Go.Proofs.YtnckdopphimgoaaGreat
