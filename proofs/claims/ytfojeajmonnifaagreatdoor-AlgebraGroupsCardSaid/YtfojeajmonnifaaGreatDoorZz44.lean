/- Slices of rows, of numbers and of five numbers, as arguments. -/
import Derived.ProofKit
import Derived.LaidMore
import Derived.OpenShut
import Derived.Lib.SmallJoins
import Derived.Lib.LaidTab
import Derived.ChangeMaps5
import Derived.Stop.LaidErr
import Derived.Below
import Derived.ChangeSame
import Derived.Test.YtfojeajmonnifaaGreatDoorZz03
import Derived.Test.YtfojeajmonnifaaGreatDoorZz05
import Derived.Test.YtfojeajmonnifaaGreatDoorZz25
import Derived.Test.YtfojeajmonnifaaGreatDoorZz43
namespace Go.Proofs.YtfojeajmonnifaaGreatDoor
open Go.ChangeShapes Go.WideShapes Go.ChangeAt Go.RowKit Go.Joins

section
variable {H : Type} {enc : TypeId × Value → H} {w : World} {base : Nat} {held : Bool}
theorem el8_I (fuel : Nat) (cs : List Value) (y : DataW H × List MemPlace) (h : DataW.trod enc Tryz.prog w base (fun _ => true) held fuel 3 cs = some y) : ∃ x : Int, cs = Enc.cells x ∧ True := by
  obtain ⟨a, e, _, _⟩ := DataW.trod_int Tryz.underlying3 h
  exact ⟨a, e, trivial⟩
set_option maxRecDepth 100000 in
theorem el8_V (fuel : Nat) (cs : List Value) (y : DataW H × List MemPlace) (hl : cs.length = 3) (h : DataW.trod enc Tryz.prog w base (fun _ => true) held fuel 74 cs = some y) : ∃ x : V, cs = Enc.cells x ∧ True := by
  obtain ⟨xs, k, _, _, _, hxl, hff⟩ := DataW.trod_struct Tryz.underlying74 h
  have hxl3 : xs.length = 3 := hxl
  match cs, hl with
  | [v0, v1, v2], _ =>
    have g0 := hff 0 _ rfl
    have g1 := hff 1 _ rfl
    have g2 := hff 2 _ rfl
    obtain ⟨y0, q0⟩ : ∃ y, xs[0]? = some y := ⟨_, List.getElem?_eq_getElem (by omega)⟩
    obtain ⟨y1, q1⟩ : ∃ y, xs[1]? = some y := ⟨_, List.getElem?_eq_getElem (by omega)⟩
    obtain ⟨y2, q2⟩ : ∃ y, xs[2]? = some y := ⟨_, List.getElem?_eq_getElem (by omega)⟩
    rw [q0] at g0
    rw [q1] at g1
    rw [q2] at g2
    have k0 : Tryz.prog.cellsOf 3 = 1 := by kernel_rfl
    have k1 : Tryz.prog.cellsOf 2 = 1 := by kernel_rfl
    have k2 : Tryz.prog.cellsOf 9 = 1 := by kernel_rfl
    have h0' : DataW.trod enc Tryz.prog w base (fun _ => true) held k 3 (([v0, v1, v2].drop 0).take (Tryz.prog.cellsOf 3)) = some y0 := g0
    rw [k0] at h0'
    have p0 : DataW.trod enc Tryz.prog w base (fun _ => true) held k 3 [v0] = some y0 := h0'
    have h1' : DataW.trod enc Tryz.prog w base (fun _ => true) held k 2 (([v0, v1, v2].drop 1).take (Tryz.prog.cellsOf 2)) = some y1 := g1
    rw [k1] at h1'
    have p1 : DataW.trod enc Tryz.prog w base (fun _ => true) held k 2 [v1] = some y1 := h1'
    have h2' : DataW.trod enc Tryz.prog w base (fun _ => true) held k 9 (([v0, v1, v2].drop 2).take (Tryz.prog.cellsOf 9)) = some y2 := g2
    rw [k2] at h2'
    have p2 : DataW.trod enc Tryz.prog w base (fun _ => true) held k 9 [v2] = some y2 := h2'
    obtain ⟨z0, f0, _, _⟩ := DataW.trod_int Tryz.underlying3 p0
    obtain ⟨z1, f1, _, _⟩ := DataW.trod_int Tryz.underlying2 p1
    obtain ⟨z2, f2, _, _⟩ := DataW.trod_string Tryz.underlying9 p2
    obtain rfl := List.cons.inj f0 |>.1
    obtain rfl := List.cons.inj f1 |>.1
    obtain rfl := List.cons.inj f2 |>.1
    exact ⟨⟨z0, z1, z2.data.toList⟩, by simp [Enc.cells], trivial⟩
set_option maxRecDepth 100000 in
theorem el8_P (fuel : Nat) (cs : List Value) (y : DataW H × List MemPlace) (hl : cs.length = 2) (h : DataW.trod enc Tryz.prog w base (fun _ => true) held fuel 67 cs = some y) : ∃ x : P, cs = Enc.cells x ∧ RdRow w x := by
  obtain ⟨xs, k, _, _, _, hxl, hff⟩ := DataW.trod_struct Tryz.underlying67 h
  have hxl2 : xs.length = 2 := hxl
  match cs, hl with
  | [v0, v1], _ =>
    have g0 := hff 0 _ rfl
    have g1 := hff 1 _ rfl
    obtain ⟨y0, q0⟩ : ∃ y, xs[0]? = some y := ⟨_, List.getElem?_eq_getElem (by omega)⟩
    obtain ⟨y1, q1⟩ : ∃ y, xs[1]? = some y := ⟨_, List.getElem?_eq_getElem (by omega)⟩
    rw [q0] at g0
    rw [q1] at g1
    have k0 : Tryz.prog.cellsOf 65 = 1 := by kernel_rfl
    have k1 : Tryz.prog.cellsOf 29 = 1 := by kernel_rfl
    have h0' : DataW.trod enc Tryz.prog w base (fun _ => true) held k 65 (([v0, v1].drop 0).take (Tryz.prog.cellsOf 65)) = some y0 := g0
    rw [k0] at h0'
    have p0 : DataW.trod enc Tryz.prog w base (fun _ => true) held k 65 [v0] = some y0 := h0'
    have h1' : DataW.trod enc Tryz.prog w base (fun _ => true) held k 29 (([v0, v1].drop 1).take (Tryz.prog.cellsOf 29)) = some y1 := g1
    rw [k1] at h1'
    have p1 : DataW.trod enc Tryz.prog w base (fun _ => true) held k 29 [v1] = some y1 := h1'
    obtain ⟨u0, l0, f0, r0, _⟩ := open_GT (fun _ : V => True) Tryz.underlying65 (by kernel_rfl) (fun f cs y hl => el8_V f cs y hl) p0
    obtain ⟨u1, l1, f1, r1, _⟩ := open_GT (fun _ : Int => True) Tryz.underlying29 (by kernel_rfl) (fun f cs y _ => el8_I f cs y) p1
    obtain rfl := List.cons.inj f0 |>.1
    obtain rfl := List.cons.inj f1 |>.1
    obtain ⟨a0, c0, rfl, _, _⟩ := r0.shape
    obtain ⟨a1, c1, rfl, _, _⟩ := r1.shape
    exact ⟨⟨⟨a0, l0.length, c0, a1, l1.length, c1⟩, ⟨l0, l1⟩⟩, rfl, r0, r1⟩
set_option maxRecDepth 100000 in
theorem el8_F (fuel : Nat) (cs : List Value) (y : DataW H × List MemPlace) (hl : cs.length = 5) (h : DataW.trod enc Tryz.prog w base (fun _ => true) held fuel 107 cs = some y) : ∃ x : Five, cs = Enc.cells x ∧ x.ok := by
  obtain ⟨xs, k, _, _, _, hxl, hff⟩ := DataW.trod_array Tryz.underlying107 h
  have k0 : Tryz.prog.cellsOf 56 = 1 := by kernel_rfl
  rw [k0] at hff
  match cs, hl with
  | [v0, v1, v2, v3, v4], _ =>
    have one : ∀ i v, i < 5 → (([v0, v1, v2, v3, v4].drop (i * 1)).take 1) = [v] → ∃ z : Int, v = .int .u16 z ∧ 0 ≤ z ∧ z ≤ 65535 := by
      intro i v hi hv
      have g := hff i hi
      rw [hv] at g
      obtain ⟨yy, q⟩ : ∃ y, xs[i]? = some y := ⟨_, List.getElem?_eq_getElem (by omega)⟩
      rw [q] at g
      obtain ⟨z, f, _, wz⟩ := DataW.trod_int Tryz.underlying56 g
      have h1 : IntKind.u16.min = 0 := by decide
      have h2 : IntKind.u16.max = 65535 := by decide
      simp [Lit.wf] at wz
      exact ⟨z, (List.cons.inj f).1, by omega, by omega⟩
    obtain ⟨z0, rfl, b0⟩ := one 0 _ (by decide) rfl
    obtain ⟨z1, rfl, b1⟩ := one 1 _ (by decide) rfl
    obtain ⟨z2, rfl, b2⟩ := one 2 _ (by decide) rfl
    obtain ⟨z3, rfl, b3⟩ := one 3 _ (by decide) rfl
    obtain ⟨z4, rfl, b4⟩ := one 4 _ (by decide) rfl
    exact ⟨⟨z0, z1, z2, z3, z4⟩, rfl, b0, b1, b2, b3, b4⟩
set_option maxRecDepth 100000 in
theorem open_rows {r : Reach} {b0 : Nat} {v : Value} {d : DataW H} {p : List MemPlace} (hv : Value.okWide Tryz.prog w r b0 40 v) (h : DataW.Trod enc Tryz.prog w base (fun _ => true) held 40 v d p) : ∃ l : List P, RdG w v l ∧ RdAll w l :=
  open_G (RdRow w) Tryz.underlying40 (by kernel_rfl) (fun f cs y hl => el8_P f cs y hl) hv h
set_option maxRecDepth 100000 in
theorem open_nums {r : Reach} {b0 : Nat} {v : Value} {d : DataW H} {p : List MemPlace} (hv : Value.okWide Tryz.prog w r b0 29 v) (h : DataW.Trod enc Tryz.prog w base (fun _ => true) held 29 v d p) : ∃ l : List Int, RdG w v l :=
  let ⟨l, h1, _⟩ := open_G (fun _ : Int => True) Tryz.underlying29 (by kernel_rfl) (fun f cs y _ => el8_I f cs y) hv h
  ⟨l, h1⟩
set_option maxRecDepth 100000 in
theorem open_fives {r : Reach} {b0 : Nat} {v : Value} {d : DataW H} {p : List MemPlace} (hv : Value.okWide Tryz.prog w r b0 48 v) (h : DataW.Trod enc Tryz.prog w base (fun _ => true) held 48 v d p) : ∃ l : List Five, RdG w v l ∧ ∀ x ∈ l, x.ok :=
  open_G Five.ok Tryz.underlying48 (by kernel_rfl) (fun f cs y hl => el8_F f cs y hl) hv h
end
end Go.Proofs.YtfojeajmonnifaaGreatDoor
/- The listed tables out of the rows' condition. -/
namespace Go.Proofs.YtfojeajmonnifaaGreatDoor
open Go.ChangeShapes Go.WideShapes Go.ChangeAt Go.RowKit Go.Joins

def laidL : List (String × DataW Unit) := [("math/bits.deBruijn32tab", Rows.laid_math_bits_deBruijn32tab), ("math/bits.deBruijn64tab", Rows.laid_math_bits_deBruijn64tab), ("internal/strconv.uint64pow10", Rows.laid_internal_strconv_uint64pow10)]
theorem own : ownKnob Tryz.prog.godebug = none := by kernel_rfl
theorem gPow : Tryz.prog.globalNamed "internal/strconv.uint64pow10" = some 1 := by kernel_rfl
theorem tPow : (Tryz.prog.globals[1]?).map (·.type) = some 261 := by kernel_rfl
theorem door_met (os : Os) (args : Array Value) : laidMetH Tryz.prog laidL ((World.doorLaid Tryz.prog 400 os).forCall (fun _ _ => 0) ⟨#[], args, []⟩).memory :=
  laidMetH_of_parts3 (fuel := 8) (laidMet_of_run' 8 (by kernel_rfl) (by kernel_rfl)) (by kernel_rfl) (by kernel_rfl)
theorem tab_laid {W : World} (h : laidMetH Tryz.prog laidL W) : PT W := by
  rw [MakeChecks.laidMetH_plain _ _ _ (by kernel_rfl)] at h
  exact Lib.tabIs_of_head (zs := Lib.pow10Tab) gPow tPow Tryz.underlying261 Tryz.underlying180 (by kernel_rfl) (by kernel_rfl) h.tail.tail
end Go.Proofs.YtfojeajmonnifaaGreatDoor
/- The last step of a row whose walk leaves what was there as it was, whatever new blocks it has made. -/
namespace Go.Proofs.YtfojeajmonnifaaGreatDoor
open Go.RowKit Go.WideShapes Go.ChangeShapes

section
variable {H : Type} {enc : TypeId × Value → H} {P : Program}
theorem post_of_ext {f : Func} {s : ChangeSpec} {apart fresh handsOn again : Bool} {W W' : World} {args : Array Value} {v : Value} {ds gs : List (DataW H)} {before pa pv : List MemPlace}
    (hW : DataW.Whole enc P f.params.toList s.vars apart W args.toList ds gs before)
    (hres : ∀ (b : Nat) (sp : Nat → Bool) (hd : Bool), DataW.TrodAll enc P W' b sp hd f.resultTypes.toList (v.resultList f.resultTypes.size) (s.fn H (ds ++ gs)).results [])
    (hargs : ∀ sp : Nat → Bool, (∀ p ∈ before, sp p.block = true) → DataW.TrodAll enc P W' 0 sp true f.params.toList args.toList (s.fn H (ds ++ gs)).args pa)
    (hvars : ∀ sp : Nat → Bool, (∀ p ∈ before, sp p.block = true) → DataW.TrodVars enc P W' sp s.vars (s.fn H (ds ++ gs)).vars pv)
    (hps : before = pa ++ pv) (hx : Ext W W')
    (hok : ∀ (j : Nat) (t : TypeId) (r : Value), f.resultTypes[j]? = some t → (v.resultList f.resultTypes.size)[j]? = some r → Value.okWide P W' .any 0 t r) :
    s.post enc P f apart fresh handsOn again W args v W' := by
  have old : ∀ p ∈ before, p.block < W.heap.size := fun p hp => hW.lt p hp
  have mark : ∀ p ∈ before, (fun b => decide (b < W.heap.size)) p.block = true := fun p hp => decide_eq_true (old p hp)
  refine ⟨ds, gs, before, [], pa, pv, hW, hres _ _ _, hargs _ mark, hvars _ mark, World.keptBut_mono (fun _ e => e.elim) hx.1, fun _ => ?_⟩
  obtain ⟨_, _, _, _, _, hz, hn⟩ := hW
  refine ⟨hok, _, _, ([] ++ pa) ++ pv, ⟨[] ++ pa, pv, trodAll_append (hargs _ (fun _ _ => rfl)) (hres _ _ _), hvars _ (fun _ _ => rfl), rfl, ?_, ?_⟩, ?_⟩
  · intro b off hp
    have hin : MemPlace.cell b off ∈ before := by rw [hps]; simpa using hp
    rw [hx.2.1 _ (old _ hin)]
    exact hz b off hin
  · intro ha
    have := hn ha
    rw [hps] at this
    simpa using this
  · intro p hp _
    rw [hps]
    simpa using hp
end
end Go.Proofs.YtfojeajmonnifaaGreatDoor
