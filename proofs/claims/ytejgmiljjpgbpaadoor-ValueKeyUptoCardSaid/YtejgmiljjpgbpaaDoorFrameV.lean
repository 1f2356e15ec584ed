/- A value, and a slice of values, as an argument. -/
import Derived.Test.YtejgmiljjpgbpaaDoorFrameX
import Derived.Test.YtejgmiljjpgbpaaDoorRv
import Derived.Lib.SmallJoins
import Derived.Deep.Slices
import Derived.LaidMore
import Derived.ChangeMaps5
namespace Go.Proofs.YtejgmiljjpgbpaaDoor
open Go.ChangeShapes Go.WideShapes Go.ChangeAt Go.RowKit Go.Joins

theorem wf_64 {a : Int} (h : (Lit.int .i64 a).wf = true) : -9223372036854775808 ≤ a ∧ a ≤ 9223372036854775807 := by
  have h1 : IntKind.i64.min = -9223372036854775808 := by decide
  have h2 : IntKind.i64.max = 9223372036854775807 := by decide
  simp [Lit.wf] at h
  omega
theorem wf_8 {a : Int} (h : (Lit.int .u8 a).wf = true) : 0 ≤ a ∧ a ≤ 255 := by
  have h1 : IntKind.u8.min = 0 := by decide
  have h2 : IntKind.u8.max = 255 := by decide
  simp [Lit.wf] at h
  omega
section
variable {H : Type} {enc : TypeId × Value → H} {w : World} {base : Nat} {spare : Nat → Bool} {held : Bool}
set_option maxRecDepth 100000 in
theorem open_val {r : Reach} {b0 : Nat} {v : Value} {d : DataW H} {p : List MemPlace} (hv : Value.okWide Tryd.prog w r b0 23 v) (h : DataW.Trod enc Tryd.prog w base spare held 23 v d p) :
    ∃ (a b : Int) (s : List UInt8), v = vv ⟨a, b, s⟩ ∧ d = .agg [.lit (.int .i64 a), .lit (.int .i64 b), .lit (.string s)] ∧ p = [] ∧ (Lit.int .i64 a).wf = true ∧ (Lit.int .i64 b).wf = true ∧ s.length ≤ maxLen := by
  obtain ⟨c0, c1, c2, y0, y1, y2, m, rfl, rfl, rfl, h0, h1, h2⟩ := open_agg3 Tryd.underlying23 (by kernel_rfl) (by kernel_rfl) hv h
  obtain ⟨a, e, x, wa⟩ := DataW.trod_int Tryd.underlying3 h0
  obtain ⟨b, e', x', wb⟩ := DataW.trod_int Tryd.underlying2 h1
  obtain ⟨s, e2, x2, ws⟩ := DataW.trod_string Tryd.underlying9 h2
  simp only [List.cons.injEq, and_true] at e e' e2
  subst e e' e2 x x' x2
  have ws' : s.data.toList.length ≤ maxLen := ws
  exact ⟨a, b, s.data.toList, by simp, rfl, rfl, wa, wb, ws'⟩
theorem shut_val {a b : Int} {s : List UInt8} (wa : (Lit.int .i64 a).wf = true) (wb : (Lit.int .i64 b).wf = true) (ws : s.length ≤ maxLen) :
    DataW.Trod enc Tryd.prog w base spare held 23 (vv ⟨a, b, s⟩) (.agg [.lit (.int .i64 a), .lit (.int .i64 b), .lit (.string s)]) [] :=
  have ws' : (⟨s.toArray⟩ : ByteArray).size ≤ maxLen := ws
  shut_agg3 (y0 := (.lit (.int .i64 a), [])) (y1 := (.lit (.int .i64 b), [])) (y2 := (.lit (.string s), [])) Tryd.underlying23 (by kernel_rfl) (by kernel_rfl) (shut_int Tryd.underlying3 wa) (shut_int Tryd.underlying2 wb) (Go.ChangeMaps.shut_string (s := ⟨s.toArray⟩) Tryd.underlying9 ws')
def strOf : Value → List UInt8 | .string s => s.data.toList | _ => []
set_option maxRecDepth 100000 in
theorem open_vals {r : Reach} {b0 : Nat} {v : Value} {d : DataW H} {p : List MemPlace} (hv : Value.okWide Tryd.prog w r b0 30 v) (h : DataW.Trod enc Tryd.prog w base (fun _ => true) held 30 v d p) : ∃ l, RdV w v l ∧ OkL l := by
  obtain ⟨a0, len, cap, rfl⟩ := okWide_slice Tryd.underlying30 hv
  obtain ⟨fuel, hf⟩ := h
  rcases Go.Deep.open_slice Tryd.underlying30 hf with ⟨hcs, _⟩ | ⟨a, len', cap', m, n, D, Pl, hcs, _, hl, hm, hmm, _, hx⟩
  · simp [Value.cells] at hcs
    obtain ⟨rfl, rfl, rfl⟩ := hcs
    exact ⟨[], rdV_nil w, fun i h => by simp at h⟩
  · simp [Value.cells] at hcs
    obtain ⟨rfl, rfl, rfl⟩ := hcs
    simp only [if_true] at hmm
    subst hmm
    have ce : Tryd.prog.cellsOf 23 = 3 := by kernel_rfl
    have each : ∀ i, i < m → ∃ (x y : Int) (s : ByteArray), w.cell? (a.add (i * 3)) = some (.int .i64 x) ∧ w.cell? (a.add (i * 3 + 1)) = some (.int .i64 y) ∧ w.cell? (a.add (i * 3 + 2)) = some (.string s) ∧ (Lit.int .i64 x).wf = true ∧ (Lit.int .i64 y).wf = true := by
      intro i hi
      obtain ⟨cs', h1, h2⟩ := hx i hi
      rw [ce] at h1
      obtain ⟨_, hlen, hcell⟩ := World.cells?_some h1
      obtain ⟨xs, k, _, _, _, hxl, hff⟩ := DataW.trod_struct Tryd.underlying23 h2
      have hxl3 : xs.length = 3 := hxl
      match cs', hlen with
      | [v0, v1, v2], _ =>
        have g0 := hff 0 _ rfl
        have g1 := hff 1 _ rfl
        have g2 := hff 2 _ rfl
        have e0 := hcell 0 (by omega)
        have e1 := hcell 1 (by omega)
        have e2 := hcell 2 (by omega)
        rw [Go.Deep.add_add] at e0 e1 e2
        simp only [List.getElem?_cons_zero, List.getElem?_cons_succ, Nat.add_zero] at e0 e1 e2
        obtain ⟨y0, q0⟩ : ∃ y, xs[0]? = some y := ⟨_, List.getElem?_eq_getElem (by omega)⟩
        obtain ⟨y1, q1⟩ : ∃ y, xs[1]? = some y := ⟨_, List.getElem?_eq_getElem (by omega)⟩
        obtain ⟨y2, q2⟩ : ∃ y, xs[2]? = some y := ⟨_, List.getElem?_eq_getElem (by omega)⟩
        rw [q0] at g0
        rw [q1] at g1
        rw [q2] at g2
        have k0 : Tryd.prog.cellsOf 3 = 1 := by kernel_rfl
        have k1 : Tryd.prog.cellsOf 2 = 1 := by kernel_rfl
        have k2 : Tryd.prog.cellsOf 9 = 1 := by kernel_rfl
        have h0' : DataW.trod enc Tryd.prog w base (fun _ => true) held k 3 (([v0, v1, v2].drop 0).take (Tryd.prog.cellsOf 3)) = some y0 := g0
        rw [k0] at h0'
        have p0 : DataW.trod enc Tryd.prog w base (fun _ => true) held k 3 [v0] = some y0 := h0'
        have h1' : DataW.trod enc Tryd.prog w base (fun _ => true) held k 2 (([v0, v1, v2].drop 1).take (Tryd.prog.cellsOf 2)) = some y1 := g1
        rw [k1] at h1'
        have p1 : DataW.trod enc Tryd.prog w base (fun _ => true) held k 2 [v1] = some y1 := h1'
        have h2' : DataW.trod enc Tryd.prog w base (fun _ => true) held k 9 (([v0, v1, v2].drop 2).take (Tryd.prog.cellsOf 9)) = some y2 := g2
        rw [k2] at h2'
        have p2 : DataW.trod enc Tryd.prog w base (fun _ => true) held k 9 [v2] = some y2 := h2'
        obtain ⟨z0, f0, _, wz0⟩ := DataW.trod_int Tryd.underlying3 p0
        obtain ⟨z1, f1, _, wz1⟩ := DataW.trod_int Tryd.underlying2 p1
        obtain ⟨z2, f2, _, _⟩ := DataW.trod_string Tryd.underlying9 p2
        obtain rfl := List.cons.inj f0 |>.1
        obtain rfl := List.cons.inj f1 |>.1
        obtain rfl := List.cons.inj f2 |>.1
        exact ⟨z0, z1, z2, e0, e1, e2, wz0, wz1⟩
    have hspot : 0 < m → a.spot = none := by
      intro hp
      obtain ⟨x, y, s, h0, _⟩ := each 0 hp
      simp only [Nat.zero_mul, Addr.add, if_true] at h0
      cases hs : a.spot with
      | none => rfl
      | some s => unfold World.cell? at h0; simp [hs] at h0; split at h0 <;> cases h0
    obtain ⟨g, o, sp⟩ := a
    have hadd : sp = none → ∀ j, (⟨g, o, sp⟩ : Addr).add j = ⟨g, o + j, none⟩ := fun e j => by subst e; unfold Addr.add; split <;> simp_all
    let val : Nat → V := fun i => ⟨intOf ((w.cell? ⟨g, o + i * 3, none⟩).getD .nilIface), intOf ((w.cell? ⟨g, o + i * 3 + 1, none⟩).getD .nilIface), strOf ((w.cell? ⟨g, o + i * 3 + 2, none⟩).getD .nilIface)⟩
    have hval : ∀ i, i < m → sp = none ∧ w.cell? ⟨g, o + i * 3, none⟩ = some (.int .i64 (val i).k) ∧ w.cell? ⟨g, o + i * 3 + 1, none⟩ = some (.int .i64 (val i).n) ∧ w.cell? ⟨g, o + i * 3 + 2, none⟩ = some (sv (val i).s) ∧ (Lit.int .i64 (val i).k).wf = true ∧ (Lit.int .i64 (val i).n).wf = true := by
      intro i hi
      have hsp := hspot (by omega)
      simp only at hsp
      obtain ⟨x, y, s, h0, h1, h2, w0, w1⟩ := each i hi
      rw [hadd hsp] at h0 h1 h2
      rw [← Nat.add_assoc] at h1 h2
      have ek : (val i).k = x := by show intOf ((w.cell? _).getD _) = x; rw [h0]; rfl
      have en : (val i).n = y := by show intOf ((w.cell? _).getD _) = y; rw [h1]; rfl
      have es : (val i).s = s.data.toList := by show strOf ((w.cell? _).getD _) = _; rw [h2]; rfl
      rw [ek, en, es]
      exact ⟨hsp, h0, h1, by rw [h2], w0, w1⟩
    refine ⟨(List.range len).map val, ⟨some ⟨g, o, sp⟩, m, by simp, by simpa using hl, hm, (fun e => by cases e), fun i hi => ?_⟩, fun i hi => ?_⟩
    · have hi' : i < m := by simp at hi; omega
      obtain ⟨rfl, h0, h1, h2, _, _⟩ := hval i hi'
      refine ⟨g, o, rfl, ?_, ?_, ?_⟩
      · simpa using h0
      · simpa using h1
      · simpa using h2
    · have hi' : i < m := by simp at hi; omega
      obtain ⟨_, _, _, _, w0, w1⟩ := hval i hi'
      have a0 := wf_64 w0
      have a1 := wf_64 w1
      simp only [List.getElem_map, List.getElem_range]
      exact ⟨a0.1, a0.2, a1.1, a1.2⟩
end
end Go.Proofs.YtejgmiljjpgbpaaDoor
