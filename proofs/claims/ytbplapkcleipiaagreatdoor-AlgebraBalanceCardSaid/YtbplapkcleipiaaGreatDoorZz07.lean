/- A slice «as» an argument, whatever its elements are. -/
import Derived.Lib.SmallJoins
import Derived.Deep.Slices
import Derived.LaidMore
import Derived.ChangeMaps5
import Derived.Below
import Derived.ChangeSame
import Derived.Test.YtbplapkcleipiaaGreatDoorZz02
import Derived.Test.YtbplapkcleipiaaGreatDoorZz03
namespace Go.Proofs.YtbplapkcleipiaaGreatDoor
open Go.ChangeShapes Go.WideShapes Go.ChangeAt Go.RowKit Go.Joins

theorem wf_64 {a : Int} (h : (Lit.int .i64 a).wf = true) : -9223372036854775808 ≤ a ∧ a ≤ 9223372036854775807 := by
  have h1 : IntKind.i64.min = -9223372036854775808 := by decide
  have h2 : IntKind.i64.max = 9223372036854775807 := by decide
  simp [Lit.wf] at h
  omega
theorem wf_8 {a : Int} (h : (Lit.int .u8 a).wf = true) : 0 ≤ a ∧ a ≤ 255 := by
  have h1 : IntKind.u8.min = 0 := by decide
  have h2 : IntKind.u8.max = 255 := by decide
  simp [Lit.wf] at h
  omega
theorem wf_s8 {a : Int} (h : (Lit.int .i8 a).wf = true) : -128 ≤ a ∧ a ≤ 127 := by
  have h1 : IntKind.i8.min = -128 := by decide
  have h2 : IntKind.i8.max = 127 := by decide
  simp [Lit.wf] at h
  omega
section
variable {H : Type} {enc : TypeId × Value → H} {w : World} {base : Nat} {held : Bool}
set_option maxRecDepth 100000 in
/-- whatever the elements are -/
theorem open_G {α : Type} [Enc α] (P : α → Prop) {t e : TypeId} (hu : Tryz.prog.underlying t = some (.slice e)) (ce : Tryz.prog.cellsOf e = Enc.sz α)
    (hel : ∀ fuel cs y, cs.length = Enc.sz α → DataW.trod enc Tryz.prog w base (fun _ => true) held fuel e cs = some y → ∃ x : α, cs = Enc.cells x ∧ P x)
    {r : Reach} {b0 : Nat} {v : Value} {d : DataW H} {p : List MemPlace} (hv : Value.okWide Tryz.prog w r b0 t v) (h : DataW.Trod enc Tryz.prog w base (fun _ => true) held t v d p) : ∃ l : List α, RdG w v l ∧ ∀ x ∈ l, P x := by
  obtain ⟨a0, len, cap, rfl⟩ := okWide_slice hu hv
  obtain ⟨fuel, hf⟩ := h
  rcases Go.Deep.open_slice hu hf with ⟨hcs, _⟩ | ⟨a, len', cap', m, n, D, Pl, hcs, _, hl, hm, hmm, _, hx⟩
  · simp [Value.cells] at hcs
    obtain ⟨rfl, rfl, rfl⟩ := hcs
    exact ⟨[], rdG_nil w, fun x hx => by cases hx⟩
  · simp [Value.cells] at hcs
    obtain ⟨rfl, rfl, rfl⟩ := hcs
    simp only [if_true] at hmm
    subst hmm
    have each : ∀ i, i < m → ∃ x : α, (∀ j u, (Enc.cells x)[j]? = some u → w.cell? (a.add (i * Enc.sz α + j)) = some u) ∧ P x := by
      intro i hi
      obtain ⟨cs', h1, h2⟩ := hx i hi
      rw [ce] at h1
      obtain ⟨_, hlen, hcell⟩ := World.cells?_some h1
      obtain ⟨x, rfl, hp⟩ := hel _ _ _ hlen h2
      refine ⟨x, fun j u hu => ?_, hp⟩
      have hj : j < Enc.sz α := by have := (List.getElem?_eq_some_iff.1 hu).1; rw [Enc.len] at this; exact this
      have := hcell j hj
      rw [Go.Deep.add_add, hu] at this
      exact this
    by_cases hm0 : m = 0
    · subst hm0
      obtain rfl : len = 0 := by omega
      exact ⟨[], ⟨some a, 0, rfl, Nat.le_refl _, Nat.zero_le _, (fun _ => rfl), fun i h => by simp at h⟩, fun x hx => by cases hx⟩
    have hp : 0 < m := by omega
    have hspot : a.spot = none := by
      obtain ⟨x, h0, _⟩ := each 0 hp
      obtain ⟨u, hu⟩ : ∃ u, (Enc.cells x)[0]? = some u := ⟨_, List.getElem?_eq_getElem (by rw [Enc.len]; exact Enc.pos)⟩
      have h0 := h0 0 u hu
      simp only [Nat.zero_mul, Nat.add_zero, Addr.add, if_true] at h0
      cases hs : a.spot with
      | none => rfl
      | some s => unfold World.cell? at h0; simp [hs] at h0; split at h0 <;> cases h0
    obtain ⟨g, o, sp⟩ := a
    simp only at hspot
    subst hspot
    have hadd : ∀ j, (⟨g, o, none⟩ : Addr).add j = ⟨g, o + j, none⟩ := fun j => by unfold Addr.add; split <;> simp_all
    obtain ⟨x0, _⟩ := each 0 hp
    have hex : ∀ i, ∃ x : α, i < m → (∀ j u, (Enc.cells x)[j]? = some u → w.cell? ((⟨g, o, none⟩ : Addr).add (i * Enc.sz α + j)) = some u) ∧ P x := fun i => by
      by_cases hi : i < m
      · obtain ⟨x, hx⟩ := each i hi; exact ⟨x, fun _ => hx⟩
      · exact ⟨x0, fun h => absurd h hi⟩
    obtain ⟨val, hval⟩ : ∃ val : Nat → α, ∀ i, i < m → (∀ j u, (Enc.cells (val i))[j]? = some u → w.cell? ((⟨g, o, none⟩ : Addr).add (i * Enc.sz α + j)) = some u) ∧ P (val i) := ⟨fun i => Classical.choose (hex i), fun i => Classical.choose_spec (hex i)⟩
    refine ⟨(List.range len).map val, ⟨some ⟨g, o, none⟩, m, by simp, by simpa using hl, hm, (fun e => by cases e), fun i hi => ⟨g, o, rfl, fun j u hu => ?_⟩⟩, fun x hx => ?_⟩
    · have hi' : i < m := by simp at hi; omega
      have := (hval i hi').1 j u (by simpa using hu)
      rw [hadd] at this
      rw [Nat.add_assoc]; exact this
    · obtain ⟨i, hi, rfl⟩ := List.mem_map.1 hx
      exact (hval i (by have := List.mem_range.1 hi; omega)).2
set_option maxRecDepth 100000 in
/-- the same by the reading alone -/
theorem open_GT {α : Type} [Enc α] (P : α → Prop) {t e : TypeId} (hu : Tryz.prog.underlying t = some (.slice e)) (ce : Tryz.prog.cellsOf e = Enc.sz α)
    (hel : ∀ fuel cs y, cs.length = Enc.sz α → DataW.trod enc Tryz.prog w base (fun _ => true) held fuel e cs = some y → ∃ x : α, cs = Enc.cells x ∧ P x)
    {fuel : Nat} {cs : List Value} {y : DataW H × List MemPlace} (hf : DataW.trod enc Tryz.prog w base (fun _ => true) held fuel t cs = some y) : ∃ (v : Value) (l : List α), cs = [v] ∧ RdG w v l ∧ ∀ x ∈ l, P x := by
  rcases Go.Deep.open_slice hu hf with ⟨hcs, _⟩ | ⟨a, len, cap, m, n, D, Pl, hcs, _, hl, hm, hmm, _, hx⟩
  · exact ⟨_, [], hcs, rdG_nil w, fun x hx => by cases hx⟩
  · simp only [if_true] at hmm
    subst hmm
    have each : ∀ i, i < m → ∃ x : α, (∀ j u, (Enc.cells x)[j]? = some u → w.cell? (a.add (i * Enc.sz α + j)) = some u) ∧ P x := by
      intro i hi
      obtain ⟨cs', h1, h2⟩ := hx i hi
      rw [ce] at h1
      obtain ⟨_, hlen, hcell⟩ := World.cells?_some h1
      obtain ⟨x, rfl, hp⟩ := hel _ _ _ hlen h2
      refine ⟨x, fun j u hu => ?_, hp⟩
      have hj : j < Enc.sz α := by have := (List.getElem?_eq_some_iff.1 hu).1; rw [Enc.len] at this; exact this
      have := hcell j hj
      rw [Go.Deep.add_add, hu] at this
      exact this
    by_cases hm0 : m = 0
    · subst hm0
      obtain rfl : len = 0 := by omega
      exact ⟨_, [], hcs, ⟨some a, 0, rfl, Nat.le_refl _, Nat.zero_le _, (fun _ => rfl), fun i h => by simp at h⟩, fun x hx => by cases hx⟩
    have hp : 0 < m := by omega
    have hspot : a.spot = none := by
      obtain ⟨x, h0, _⟩ := each 0 hp
      obtain ⟨u, hu⟩ : ∃ u, (Enc.cells x)[0]? = some u := ⟨_, List.getElem?_eq_getElem (by rw [Enc.len]; exact Enc.pos)⟩
      have h0 := h0 0 u hu
      simp only [Nat.zero_mul, Nat.add_zero, Addr.add, if_true] at h0
      cases hs : a.spot with
      | none => rfl
      | some s => unfold World.cell? at h0; simp [hs] at h0; split at h0 <;> cases h0
    obtain ⟨g, o, sp⟩ := a
    simp only at hspot
    subst hspot
    have hadd : ∀ j, (⟨g, o, none⟩ : Addr).add j = ⟨g, o + j, none⟩ := fun j => by unfold Addr.add; split <;> simp_all
    obtain ⟨x0, _⟩ := each 0 hp
    have hex : ∀ i, ∃ x : α, i < m → (∀ j u, (Enc.cells x)[j]? = some u → w.cell? ((⟨g, o, none⟩ : Addr).add (i * Enc.sz α + j)) = some u) ∧ P x := fun i => by
      by_cases hi : i < m
      · obtain ⟨x, hx⟩ := each i hi; exact ⟨x, fun _ => hx⟩
      · exact ⟨x0, fun h => absurd h hi⟩
    obtain ⟨val, hval⟩ : ∃ val : Nat → α, ∀ i, i < m → (∀ j u, (Enc.cells (val i))[j]? = some u → w.cell? ((⟨g, o, none⟩ : Addr).add (i * Enc.sz α + j)) = some u) ∧ P (val i) := ⟨fun i => Classical.choose (hex i), fun i => Classical.choose_spec (hex i)⟩
    refine ⟨_, (List.range len).map val, hcs, ⟨some ⟨g, o, none⟩, m, by simp, by simpa using hl, hm, (fun e => by cases e), fun i hi => ⟨g, o, rfl, fun j u hu => ?_⟩⟩, fun x hx => ?_⟩
    · have hi' : i < m := by simp at hi; omega
      have := (hval i hi').1 j u (by simpa using hu)
      rw [hadd] at this
      rw [Nat.add_assoc]; exact this
    · obtain ⟨i, hi, rfl⟩ := List.mem_map.1 hx
      exact (hval i (by have := List.mem_range.1 hi; omega)).2
end
end Go.Proofs.YtbplapkcleipiaaGreatDoor
/- Five small numbers: what the laws' builders take. -/
namespace Go.Proofs.YtbplapkcleipiaaGreatDoor
open Go.ChangeShapes Go.WideShapes Go.ChangeAt Go.RowKit

structure Five where
  a : Int
  b : Int
  c : Int
  d : Int
  e : Int
abbrev Five.v (x : Five) : Value := .agg #[.int .u16 x.a, .int .u16 x.b, .int .u16 x.c, .int .u16 x.d, .int .u16 x.e]
def Five.ok (x : Five) : Prop := (0 ≤ x.a ∧ x.a ≤ 65535) ∧ (0 ≤ x.b ∧ x.b ≤ 65535) ∧ (0 ≤ x.c ∧ x.c ≤ 65535) ∧ (0 ≤ x.d ∧ x.d ≤ 65535) ∧ (0 ≤ x.e ∧ x.e ≤ 65535)
instance : Enc Five := ⟨5, by decide, fun x => [.int .u16 x.a, .int .u16 x.b, .int .u16 x.c, .int .u16 x.d, .int .u16 x.e], fun _ => rfl, fun a u h => by simp at h; rcases h with rfl | rfl | rfl | rfl | rfl <;> rfl⟩
theorem rd_Five {w : World} {ad : Option Addr} {n cap : Nat} {l : List Five} (h : RdG w (.slice ad n cap) l) (i : Nat) (hi : i < l.length) : ∃ g o, ad = some ⟨g, o, none⟩ ∧ w.cell? ⟨g, o + i * 5, none⟩ = some (.int .u16 l[i].a) ∧ w.cell? ⟨g, o + i * 5 + 1, none⟩ = some (.int .u16 l[i].b) ∧ w.cell? ⟨g, o + i * 5 + 2, none⟩ = some (.int .u16 l[i].c) ∧ w.cell? ⟨g, o + i * 5 + 3, none⟩ = some (.int .u16 l[i].d) ∧ w.cell? ⟨g, o + i * 5 + 4, none⟩ = some (.int .u16 l[i].e) := by
  obtain ⟨g, o, e, c⟩ := h.at i hi
  exact ⟨g, o, e, c 0 _ rfl, c 1 _ rfl, c 2 _ rfl, c 3 _ rfl, c 4 _ rfl⟩
end Go.Proofs.YtbplapkcleipiaaGreatDoor
/- The last step of a row whose walk leaves what was there «as» it was, whatever new blocks it has made. -/
namespace Go.Proofs.YtbplapkcleipiaaGreatDoor
open Go.RowKit Go.WideShapes Go.ChangeShapes

section
variable {H : Type} {enc : TypeId × Value → H} {P : Program}
theorem post_of_ext {f : Func} {s : ChangeSpec} {apart fresh handsOn again : Bool} {W W' : World} {args : Array Value} {v : Value} {ds gs : List (DataW H)} {before pa pv : List MemPlace}
    (hW : DataW.Whole enc P f.params.toList s.vars apart W args.toList ds gs before)
    (hres : ∀ (b : Nat) (sp : Nat → Bool) (hd : Bool), DataW.TrodAll enc P W' b sp hd f.resultTypes.toList (v.resultList f.resultTypes.size) (s.fn H (ds ++ gs)).results [])
    (hargs : ∀ sp : Nat → Bool, (∀ p ∈ before, sp p.block = true) → DataW.TrodAll enc P W' 0 sp true f.params.toList args.toList (s.fn H (ds ++ gs)).args pa)
    (hvars : ∀ sp : Nat → Bool, (∀ p ∈ before, sp p.block = true) → DataW.TrodVars enc P W' sp s.vars (s.fn H (ds ++ gs)).vars pv)
    (hps : before = pa ++ pv) (hx : Ext W W')
    (hok : ∀ (j : Nat) (t : TypeId) (r : Value), f.resultTypes[j]? = some t → (v.resultList f.resultTypes.size)[j]? = some r → Value.okWide P W' .any 0 t r) :
    s.post enc P f apart fresh handsOn again W args v W' := by
  have old : ∀ p ∈ before, p.block < W.heap.size := fun p hp => hW.lt p hp
  have mark : ∀ p ∈ before, (fun b => decide (b < W.heap.size)) p.block = true := fun p hp => decide_eq_true (old p hp)
  refine ⟨ds, gs, before, [], pa, pv, hW, hres _ _ _, hargs _ mark, hvars _ mark, World.keptBut_mono (fun _ e => e.elim) hx.1, fun _ => ?_⟩
  obtain ⟨_, _, _, _, _, hz, hn⟩ := hW
  refine ⟨hok, _, _, ([] ++ pa) ++ pv, ⟨[] ++ pa, pv, trodAll_append (hargs _ (fun _ _ => rfl)) (hres _ _ _), hvars _ (fun _ _ => rfl), rfl, ?_, ?_⟩, ?_⟩
  · intro b off hp
    have hin : MemPlace.cell b off ∈ before := by rw [hps]; simpa using hp
    rw [hx.2.1 _ (old _ hin)]
    exact hz b off hin
  · intro ha
    have := hn ha
    rw [hps] at this
    simpa using this
  · intro p hp _
    rw [hps]
    simpa using hp
end
end Go.Proofs.YtbplapkcleipiaaGreatDoor
