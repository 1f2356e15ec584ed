/- Slices of expressions, numbers, marks and values, as arguments. -/
import Derived.Test.YtdamlnfjhpmpmaaFrameX
import Derived.Test.YtdamlnfjhpmpmaaEv4
import Derived.Lib.SmallJoins
import Derived.Deep.Slices
import Derived.LaidMore
import Derived.ChangeMaps5
namespace Go.Proofs.Ytdamlnfjhpmpmaa
open Go.ChangeShapes Go.WideShapes Go.ChangeAt Go.RowKit Go.Joins

theorem wf_64 {a : Int} (h : (Lit.int .i64 a).wf = true) : -9223372036854775808 ≤ a ∧ a ≤ 9223372036854775807 := by
  have h1 : IntKind.i64.min = -9223372036854775808 := by decide
  have h2 : IntKind.i64.max = 9223372036854775807 := by decide
  simp [Lit.wf] at h
  omega
theorem wf_8 {a : Int} (h : (Lit.int .u8 a).wf = true) : 0 ≤ a ∧ a ≤ 255 := by
  have h1 : IntKind.u8.min = 0 := by decide
  have h2 : IntKind.u8.max = 255 := by decide
  simp [Lit.wf] at h
  omega
theorem wf_s8 {a : Int} (h : (Lit.int .i8 a).wf = true) : -128 ≤ a ∧ a ≤ 127 := by
  have h1 : IntKind.i8.min = -128 := by decide
  have h2 : IntKind.i8.max = 127 := by decide
  simp [Lit.wf] at h
  omega
section
variable {H : Type} {enc : TypeId × Value → H} {w : World} {base : Nat} {held : Bool}
set_option maxRecDepth 100000 in
/-- whatever the elements are -/
theorem open_G {α : Type} [Enc α] (P : α → Prop) {t e : TypeId} (hu : Try.prog.underlying t = some (.slice e)) (ce : Try.prog.cellsOf e = Enc.sz α)
    (hel : ∀ fuel cs y, cs.length = Enc.sz α → DataW.trod enc Try.prog w base (fun _ => true) held fuel e cs = some y → ∃ x : α, cs = Enc.cells x ∧ P x)
    {r : Reach} {b0 : Nat} {v : Value} {d : DataW H} {p : List MemPlace} (hv : Value.okWide Try.prog w r b0 t v) (h : DataW.Trod enc Try.prog w base (fun _ => true) held t v d p) : ∃ l : List α, RdG w v l ∧ ∀ x ∈ l, P x := by
  obtain ⟨a0, len, cap, rfl⟩ := okWide_slice hu hv
  obtain ⟨fuel, hf⟩ := h
  rcases Go.Deep.open_slice hu hf with ⟨hcs, _⟩ | ⟨a, len', cap', m, n, D, Pl, hcs, _, hl, hm, hmm, _, hx⟩
  · simp [Value.cells] at hcs
    obtain ⟨rfl, rfl, rfl⟩ := hcs
    exact ⟨[], rdG_nil w, fun x hx => by cases hx⟩
  · simp [Value.cells] at hcs
    obtain ⟨rfl, rfl, rfl⟩ := hcs
    simp only [if_true] at hmm
    subst hmm
    have each : ∀ i, i < m → ∃ x : α, (∀ j u, (Enc.cells x)[j]? = some u → w.cell? (a.add (i * Enc.sz α + j)) = some u) ∧ P x := by
      intro i hi
      obtain ⟨cs', h1, h2⟩ := hx i hi
      rw [ce] at h1
      obtain ⟨_, hlen, hcell⟩ := World.cells?_some h1
      obtain ⟨x, rfl, hp⟩ := hel _ _ _ hlen h2
      refine ⟨x, fun j u hu => ?_, hp⟩
      have hj : j < Enc.sz α := by have := (List.getElem?_eq_some_iff.1 hu).1; rw [Enc.len] at this; exact this
      have := hcell j hj
      rw [Go.Deep.add_add, hu] at this
      exact this
    by_cases hm0 : m = 0
    · subst hm0
      obtain rfl : len = 0 := by omega
      exact ⟨[], ⟨some a, 0, rfl, Nat.le_refl _, Nat.zero_le _, (fun _ => rfl), fun i h => by simp at h⟩, fun x hx => by cases hx⟩
    have hp : 0 < m := by omega
    have hspot : a.spot = none := by
      obtain ⟨x, h0, _⟩ := each 0 hp
      obtain ⟨u, hu⟩ : ∃ u, (Enc.cells x)[0]? = some u := ⟨_, List.getElem?_eq_getElem (by rw [Enc.len]; exact Enc.pos)⟩
      have h0 := h0 0 u hu
      simp only [Nat.zero_mul, Nat.add_zero, Addr.add, if_true] at h0
      cases hs : a.spot with
      | none => rfl
      | some s => unfold World.cell? at h0; simp [hs] at h0; split at h0 <;> cases h0
    obtain ⟨g, o, sp⟩ := a
    simp only at hspot
    subst hspot
    have hadd : ∀ j, (⟨g, o, none⟩ : Addr).add j = ⟨g, o + j, none⟩ := fun j => by unfold Addr.add; split <;> simp_all
    obtain ⟨x0, _⟩ := each 0 hp
    have hex : ∀ i, ∃ x : α, i < m → (∀ j u, (Enc.cells x)[j]? = some u → w.cell? ((⟨g, o, none⟩ : Addr).add (i * Enc.sz α + j)) = some u) ∧ P x := fun i => by
      by_cases hi : i < m
      · obtain ⟨x, hx⟩ := each i hi; exact ⟨x, fun _ => hx⟩
      · exact ⟨x0, fun h => absurd h hi⟩
    obtain ⟨val, hval⟩ : ∃ val : Nat → α, ∀ i, i < m → (∀ j u, (Enc.cells (val i))[j]? = some u → w.cell? ((⟨g, o, none⟩ : Addr).add (i * Enc.sz α + j)) = some u) ∧ P (val i) := ⟨fun i => Classical.choose (hex i), fun i => Classical.choose_spec (hex i)⟩
    refine ⟨(List.range len).map val, ⟨some ⟨g, o, none⟩, m, by simp, by simpa using hl, hm, (fun e => by cases e), fun i hi => ⟨g, o, rfl, fun j u hu => ?_⟩⟩, fun x hx => ?_⟩
    · have hi' : i < m := by simp at hi; omega
      have := (hval i hi').1 j u (by simpa using hu)
      rw [hadd] at this
      rw [Nat.add_assoc]; exact this
    · obtain ⟨i, hi, rfl⟩ := List.mem_map.1 hx
      exact (hval i (by have := List.mem_range.1 hi; omega)).2
theorem el_I (fuel : Nat) (cs : List Value) (y : DataW H × List MemPlace) (h : DataW.trod enc Try.prog w base (fun _ => true) held fuel 3 cs = some y) : ∃ x : Int, cs = Enc.cells x ∧ okN x := by
  obtain ⟨a, e, _, wa⟩ := DataW.trod_int Try.underlying3 h
  exact ⟨a, e, wf_64 wa⟩
theorem el_B (fuel : Nat) (cs : List Value) (y : DataW H × List MemPlace) (h : DataW.trod enc Try.prog w base (fun _ => true) held fuel 4 cs = some y) : ∃ x : Bool, cs = Enc.cells x ∧ True := by
  obtain ⟨a, e, _⟩ := DataW.trod_bool Try.underlying4 h
  exact ⟨a, e, trivial⟩
set_option maxRecDepth 100000 in
theorem el_V (fuel : Nat) (cs : List Value) (y : DataW H × List MemPlace) (hl : cs.length = 3) (h : DataW.trod enc Try.prog w base (fun _ => true) held fuel 34 cs = some y) : ∃ x : V, cs = Enc.cells x ∧ okN x.k ∧ okN x.n := by
  obtain ⟨xs, k, _, _, _, hxl, hff⟩ := DataW.trod_struct Try.underlying34 h
  have hxl3 : xs.length = 3 := hxl
  match cs, hl with
  | [v0, v1, v2], _ =>
    have g0 := hff 0 _ rfl
    have g1 := hff 1 _ rfl
    have g2 := hff 2 _ rfl
    obtain ⟨y0, q0⟩ : ∃ y, xs[0]? = some y := ⟨_, List.getElem?_eq_getElem (by omega)⟩
    obtain ⟨y1, q1⟩ : ∃ y, xs[1]? = some y := ⟨_, List.getElem?_eq_getElem (by omega)⟩
    obtain ⟨y2, q2⟩ : ∃ y, xs[2]? = some y := ⟨_, List.getElem?_eq_getElem (by omega)⟩
    rw [q0] at g0
    rw [q1] at g1
    rw [q2] at g2
    have k0 : Try.prog.cellsOf 3 = 1 := by kernel_rfl
    have k1 : Try.prog.cellsOf 2 = 1 := by kernel_rfl
    have k2 : Try.prog.cellsOf 9 = 1 := by kernel_rfl
    have h0' : DataW.trod enc Try.prog w base (fun _ => true) held k 3 (([v0, v1, v2].drop 0).take (Try.prog.cellsOf 3)) = some y0 := g0
    rw [k0] at h0'
    have p0 : DataW.trod enc Try.prog w base (fun _ => true) held k 3 [v0] = some y0 := h0'
    have h1' : DataW.trod enc Try.prog w base (fun _ => true) held k 2 (([v0, v1, v2].drop 1).take (Try.prog.cellsOf 2)) = some y1 := g1
    rw [k1] at h1'
    have p1 : DataW.trod enc Try.prog w base (fun _ => true) held k 2 [v1] = some y1 := h1'
    have h2' : DataW.trod enc Try.prog w base (fun _ => true) held k 9 (([v0, v1, v2].drop 2).take (Try.prog.cellsOf 9)) = some y2 := g2
    rw [k2] at h2'
    have p2 : DataW.trod enc Try.prog w base (fun _ => true) held k 9 [v2] = some y2 := h2'
    obtain ⟨z0, f0, _, wz0⟩ := DataW.trod_int Try.underlying3 p0
    obtain ⟨z1, f1, _, wz1⟩ := DataW.trod_int Try.underlying2 p1
    obtain ⟨z2, f2, _, _⟩ := DataW.trod_string Try.underlying9 p2
    obtain rfl := List.cons.inj f0 |>.1
    obtain rfl := List.cons.inj f1 |>.1
    obtain rfl := List.cons.inj f2 |>.1
    exact ⟨⟨z0, z1, z2.data.toList⟩, by simp [Enc.cells], wf_64 wz0, wf_64 wz1⟩
def OkE (x : X) : Prop := okN x.op ∧ okN x.a ∧ okN x.b ∧ okN x.col ∧ okN x.c.k ∧ okN x.c.n
set_option maxRecDepth 100000 in
theorem el_X (fuel : Nat) (cs : List Value) (y : DataW H × List MemPlace) (hl : cs.length = 7) (h : DataW.trod enc Try.prog w base (fun _ => true) held fuel 44 cs = some y) : ∃ x : X, cs = Enc.cells x ∧ OkE x := by
  obtain ⟨xs, k, _, _, _, hxl, hff⟩ := DataW.trod_struct Try.underlying44 h
  have hxl3 : xs.length = 5 := hxl
  match cs, hl with
  | [v0, v1, v2, v3, v4, v5, v6], _ =>
    have k0 : Try.prog.cellsOf 3 = 1 := by kernel_rfl
    have k4 : Try.prog.cellsOf 34 = 3 := by kernel_rfl
    have g0 := hff 0 _ rfl
    have g1 := hff 1 _ rfl
    have g2 := hff 2 _ rfl
    have g3 := hff 3 _ rfl
    have g4 := hff 4 _ rfl
    obtain ⟨y0, q0⟩ : ∃ y, xs[0]? = some y := ⟨_, List.getElem?_eq_getElem (by omega)⟩
    obtain ⟨y1, q1⟩ : ∃ y, xs[1]? = some y := ⟨_, List.getElem?_eq_getElem (by omega)⟩
    obtain ⟨y2, q2⟩ : ∃ y, xs[2]? = some y := ⟨_, List.getElem?_eq_getElem (by omega)⟩
    obtain ⟨y3, q3⟩ : ∃ y, xs[3]? = some y := ⟨_, List.getElem?_eq_getElem (by omega)⟩
    obtain ⟨y4, q4⟩ : ∃ y, xs[4]? = some y := ⟨_, List.getElem?_eq_getElem (by omega)⟩
    rw [q0] at g0
    rw [q1] at g1
    rw [q2] at g2
    rw [q3] at g3
    rw [q4] at g4
    have h0' : DataW.trod enc Try.prog w base (fun _ => true) held k 3 (([v0, v1, v2, v3, v4, v5, v6].drop 0).take (Try.prog.cellsOf 3)) = some y0 := g0
    have h1' : DataW.trod enc Try.prog w base (fun _ => true) held k 3 (([v0, v1, v2, v3, v4, v5, v6].drop 1).take (Try.prog.cellsOf 3)) = some y1 := g1
    have h2' : DataW.trod enc Try.prog w base (fun _ => true) held k 3 (([v0, v1, v2, v3, v4, v5, v6].drop 2).take (Try.prog.cellsOf 3)) = some y2 := g2
    have h3' : DataW.trod enc Try.prog w base (fun _ => true) held k 3 (([v0, v1, v2, v3, v4, v5, v6].drop 3).take (Try.prog.cellsOf 3)) = some y3 := g3
    have h4' : DataW.trod enc Try.prog w base (fun _ => true) held k 34 (([v0, v1, v2, v3, v4, v5, v6].drop 4).take (Try.prog.cellsOf 34)) = some y4 := g4
    rw [k0] at h0' h1' h2' h3'
    rw [k4] at h4'
    have p0 : DataW.trod enc Try.prog w base (fun _ => true) held k 3 [v0] = some y0 := h0'
    have p1 : DataW.trod enc Try.prog w base (fun _ => true) held k 3 [v1] = some y1 := h1'
    have p2 : DataW.trod enc Try.prog w base (fun _ => true) held k 3 [v2] = some y2 := h2'
    have p3 : DataW.trod enc Try.prog w base (fun _ => true) held k 3 [v3] = some y3 := h3'
    have p4 : DataW.trod enc Try.prog w base (fun _ => true) held k 34 [v4, v5, v6] = some y4 := h4'
    obtain ⟨z0, f0, o0⟩ := el_I _ _ _ p0
    obtain ⟨z1, f1, o1⟩ := el_I _ _ _ p1
    obtain ⟨z2, f2, o2⟩ := el_I _ _ _ p2
    obtain ⟨z3, f3, o3⟩ := el_I _ _ _ p3
    obtain ⟨z4, f4, o4⟩ := el_V _ _ _ rfl p4
    obtain rfl := List.cons.inj f0 |>.1
    obtain rfl := List.cons.inj f1 |>.1
    obtain rfl := List.cons.inj f2 |>.1
    obtain rfl := List.cons.inj f3 |>.1
    simp [Enc.cells] at f4
    obtain ⟨rfl, rfl, rfl⟩ := f4
    exact ⟨⟨z0, z1, z2, z3, z4⟩, rfl, o0, o1, o2, o3, o4.1, o4.2⟩
set_option maxRecDepth 100000 in
theorem open_exprs {r : Reach} {b0 : Nat} {v : Value} {d : DataW H} {p : List MemPlace} (hv : Value.okWide Try.prog w r b0 22 v) (h : DataW.Trod enc Try.prog w base (fun _ => true) held 22 v d p) : ∃ l : List X, RdG w v l ∧ OkX l := by
  obtain ⟨l, h1, h2⟩ := open_G OkE Try.underlying22 (by kernel_rfl) (fun f cs y hl => el_X f cs y hl) hv h
  exact ⟨l, h1, fun x hx => (h2 x hx).2.2.2.2.2⟩
set_option maxRecDepth 100000 in
theorem open_ints {r : Reach} {b0 : Nat} {v : Value} {d : DataW H} {p : List MemPlace} (hv : Value.okWide Try.prog w r b0 23 v) (h : DataW.Trod enc Try.prog w base (fun _ => true) held 23 v d p) : ∃ l : List Int, RdG w v l ∧ ∀ x ∈ l, okN x :=
  open_G okN Try.underlying23 (by kernel_rfl) (fun f cs y _ => el_I f cs y) hv h
set_option maxRecDepth 100000 in
theorem open_bools {r : Reach} {b0 : Nat} {v : Value} {d : DataW H} {p : List MemPlace} (hv : Value.okWide Try.prog w r b0 39 v) (h : DataW.Trod enc Try.prog w base (fun _ => true) held 39 v d p) : ∃ l : List Bool, RdG w v l :=
  let ⟨l, h1, _⟩ := open_G (fun _ : Bool => True) Try.underlying39 (by kernel_rfl) (fun f cs y _ => el_B f cs y) hv h
  ⟨l, h1⟩
set_option maxRecDepth 100000 in
theorem open_vals {r : Reach} {b0 : Nat} {v : Value} {d : DataW H} {p : List MemPlace} (hv : Value.okWide Try.prog w r b0 32 v) (h : DataW.Trod enc Try.prog w base (fun _ => true) held 32 v d p) : ∃ l : List V, RdG w v l ∧ OkR l := by
  obtain ⟨l, h1, h2⟩ := open_G (fun x : V => okN x.k ∧ okN x.n) Try.underlying32 (by kernel_rfl) (fun f cs y hl => el_V f cs y hl) hv h
  exact ⟨l, h1, fun x hx => (h2 x hx).2⟩
end
end Go.Proofs.Ytdamlnfjhpmpmaa
