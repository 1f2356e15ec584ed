/- append of bytes to a row of the call's own. -/
import Derived.Test.YtejgmiljjpgbpaaDoorGb
import Derived.Lib.AppendStr
import Derived.Lib.AppendIntMem
import Derived.Laws.IdiomStrings
import Derived.Laws.BytesArg
namespace Go.Proofs.YtejgmiljjpgbpaaDoor
open Go.ChangeShapes Go.WideShapes Go.ChangeAt Go.RowKit

theorem infoB : (Tryd.prog.info? 5).map (fun i => (i.zero, i.size, i.bytes)) = some (some (.int .u8 0), 1, 1) := by kernel_rfl
theorem bc_len (l : List UInt8) : (Lib.byteCells l).length = l.length := by simp [Lib.byteCells]
theorem bc_app (l m : List UInt8) : Lib.byteCells (l ++ m) = Lib.byteCells l ++ Lib.byteCells m := by simp [Lib.byteCells]
theorem bc_one (l : List UInt8) : ∀ u ∈ Lib.byteCells l, u.oneCell' = true := by
  intro u hu
  unfold Lib.byteCells at hu
  simp at hu
  obtain ⟨a, _, rfl⟩ := hu; rfl
theorem bc_at (l : List UInt8) (i : Nat) (h : i < l.length) : (Lib.byteCells l)[i]? = some (.int .u8 l[i].toNat) := by simp [Lib.byteCells, h]
/-- the value is a slice whose cells hold these bytes -/
def RdB (w : World) (v : Value) (l : List UInt8) : Prop :=
  ∃ ad cap, v = .slice ad l.length cap ∧ l.length ≤ cap ∧ cap ≤ maxLen ∧ (ad = none → cap = 0) ∧
    ∀ (i : Nat) (h : i < l.length), ∃ g o, ad = some ⟨g, o, none⟩ ∧ w.cell? ⟨g, o + i, none⟩ = some (.int .u8 l[i].toNat)
/-- a row of bytes of the call's own: new behind W -/
def OwnB (W w : World) (v : Value) (l : List UInt8) : Prop := w.ownsRow W.heap.size 5 1 v l.length (Lib.byteCells l) ∧ Ext W w
theorem OwnB.nil (W w : World) (h : Ext W w) : OwnB W w (.slice none 0 0) [] := ⟨World.ownsRow_nil _ _ _ _, h⟩
theorem OwnB.ext {W w w' : World} {v : Value} {l : List UInt8} (h : OwnB W w v l) (e : Ext w w') : OwnB W w' v l := ⟨e.owns h.1, h.2.trans e⟩
theorem OwnB.grow {W w w' : World} {v v' : Value} {l m : List UInt8} (h : OwnB W w v l) (hg : w.grownBy w' v.ownBlock) (ho : w'.ownsRow W.heap.size 5 1 v' m.length (Lib.byteCells m)) : OwnB W w' v' m :=
  ⟨ho, ext_grownBy h.2 hg (fun k hk => (h.1.lt k hk).1)⟩
theorem OwnB.rd {W w : World} {v : Value} {l : List UInt8} (h : OwnB W w v l) : RdB w v l := by
  rcases h.1.2 with ⟨rfl, hn⟩ | ⟨g, cap, cur, rfl, hb, hg, hc, hm, hs, ht⟩
  · exact ⟨none, 0, by rw [hn], by omega, Nat.zero_le _, fun _ => rfl, fun i h => by omega⟩
  · refine ⟨some ⟨g, 0, none⟩, cap, rfl, hc, hm, (fun h => by cases h), fun i hi => ⟨g, 0, rfl, ?_⟩⟩
    rw [Nat.zero_add, h.1.cellAt i (by omega)]; exact bc_at l i hi
/-- a literal of one byte -/
theorem ownB_lit {W w : World} (h : Ext W w) (b : UInt8) (c : Int) (hc : c = b.toNat) (n : Nat) (hn : w.heap.size = n) : OwnB W (w.alloc (.cells #[.int .u8 c] 5)) (.slice (some ⟨n, 0, none⟩) 1 1) [b] := by
  subst hn hc
  refine ⟨⟨rfl, Or.inr ⟨w.heap.size, 1, #[.int .u8 b.toNat], rfl, h.2.2, (MapKept.heap_alloc w _).1, Nat.le_refl _, by unfold maxLen; omega, rfl, rfl⟩⟩, h.alloc _ _⟩
theorem rdB_lit (w : World) (b : UInt8) (c : Int) (hc : c = b.toNat) (n : Nat) (hn : w.heap.size = n) : RdB (w.alloc (.cells #[.int .u8 c] 5)) (.slice (some ⟨n, 0, none⟩) 1 1) [b] :=
  (ownB_lit (Ext.refl w) b c hc n hn).rd
theorem RdB.ext {w w' : World} {v : Value} {l : List UInt8} (h : RdB w v l) (e : Ext w w') : RdB w' v l := by
  obtain ⟨ad, cap, rfl, h1, h2, h3, h4⟩ := h
  refine ⟨ad, cap, rfl, h1, h2, h3, fun i hi => ?_⟩
  obtain ⟨g, o, rfl, c0⟩ := h4 i hi
  exact ⟨g, o, rfl, e.keeps c0⟩
theorem RdB.news {w : World} {ad : Addr} {n cap : Nat} {l : List UInt8} (h : RdB w (.slice (some ad) n cap) l) : ∀ j u, (Lib.byteCells l)[j]? = some u → w.cell? (ad.add j) = some u := by
  obtain ⟨ad', cap', e, h1, h2, h3, h4⟩ := h
  simp only [Value.slice.injEq] at e
  obtain ⟨rfl, rfl, rfl⟩ := e
  intro j u hj
  have hlt : j < l.length := by rw [← bc_len]; exact (List.getElem?_eq_some_iff.1 hj).1
  obtain ⟨g, o, e, c0⟩ := h4 j hlt
  simp only [Option.some.injEq] at e
  subst e
  have hadd : (⟨g, o, none⟩ : Addr).add j = ⟨g, o + j, none⟩ := by unfold Addr.add; split <;> simp_all
  rw [hadd, c0, ← bc_at l j hlt, hj]
/-- string(b) -/
theorem RdB.text {w : World} {v : Value} {l : List UInt8} (h : RdB w v l) : (convert 47 9 v).run Tryd.prog w = .ok (.string ⟨l.toArray⟩) w := by
  have h' := h
  obtain ⟨ad, cap, rfl, h1, h2, h3, h4⟩ := h
  cases ad with
  | none =>
    have hm : l = [] := List.eq_nil_of_length_eq_zero (by have := h3 rfl; omega)
    subst hm
    exact run_convert_bytes_nil (P := Tryd.prog) w 47 5 Tryd.underlying47 Tryd.underlying5 _ _ 9 Tryd.underlying9
  | some ad =>
    refine run_convert_bytes_back (P := Tryd.prog) w 47 9 5 ad cap l Tryd.underlying47 Tryd.underlying5 Tryd.underlying9 fun j hj => ?_
    exact h'.news j _ (bc_at l j hj)
theorem appB {w : World} {ops : Array Oper} {rest : List Oper} {o : Oper} {a : Act} {Q : Exit → Act → World → Prop} (hgd : o.guard = none) (s x : Operand)
    (ho : o.op = .call { callee := .builtin .append, args := #[s, x], argTypes := #[47, 47] })
    (W : World) (v : Value) (l : List UInt8) (hs : a.eval s = v) (hown : OwnB W w v l) (vx : Value) (m : List UInt8) (hx : a.eval x = vx) (hrd : RdB w vx m) (hlen : l.length + m.length ≤ 140737488355328)
    (h : ∀ v' w', OwnB W w' v' (l ++ m) → w.grownBy w' v.ownBlock → wpList Tryd.prog ops Q rest (a.put o.dst v') w') : wpList Tryd.prog ops Q (o :: rest) a w := by
  obtain ⟨i0, hi, hz0, hz1, hz2⟩ := info_parts infoB
  have hrd' := hrd
  obtain ⟨ad, cap, rfl, h1, h2, h3, h4⟩ := hrd
  cases ad with
  | some ad =>
    refine wpList_append_own w hgd s x 47 ho W.heap.size 5 i0 (.int .u8 0) 1 1 Tryd.underlying47 hi hz0 hz1 hz2 rfl (by decide) v l.length (Lib.byteCells l) hs hown.1 ad m.length cap (Lib.byteCells m) hx (by rw [bc_len, Nat.mul_one])
      hrd'.news (bc_one m) (by unfold maxLen; omega) (by omega) hown.2.2.2 ?_
    intro v' w' ho' hg' _
    refine h v' w' (hown.grow hg' ?_) hg'
    rw [bc_app, List.length_append]; exact ho'
  | none =>
    have hm : m = [] := List.eq_nil_of_length_eq_zero (by have := h3 rfl; omega)
    subst hm
    obtain rfl := h3 rfl
    refine wpList_plain hgd fun K hK' => ?_
    have hrun := run_append_owned_none (P := Tryd.prog) w W.heap.size 47 o.type 5 i0 1 Tryd.underlying47 hi _ l.length (Lib.byteCells l) hown.1
    unfold Oper.wp
    simp only [List.length_nil] at hx
    simp [execOp, ho, resolve, invoke, builtin, hs, hx, hrun, Result.andThen]
    exact hK' _ _ (h v w (by simpa using hown) (World.grownBy.refl _ _))
/-- append(b, s...) with a string -/
theorem appS {w : World} {ops : Array Oper} {rest : List Oper} {o : Oper} {a : Act} {Q : Exit → Act → World → Prop} (hgd : o.guard = none) (s x : Operand)
    (ho : o.op = .call { callee := .builtin .append, args := #[s, x], argTypes := #[47, 9] })
    (W : World) (v : Value) (l : List UInt8) (hs : a.eval s = v) (hown : OwnB W w v l) (m : List UInt8) (hx : a.eval x = .string ⟨m.toArray⟩) (hlen : l.length + m.length ≤ 140737488355328)
    (h : ∀ v' w', OwnB W w' v' (l ++ m) → w.grownBy w' v.ownBlock → wpList Tryd.prog ops Q rest (a.put o.dst v') w') : wpList Tryd.prog ops Q (o :: rest) a w := by
  obtain ⟨i0, hi, hz0, hz1, hz2⟩ := info_parts infoB
  have hsz : (⟨m.toArray⟩ : ByteArray).size = m.length := by simp [ByteArray.size]
  refine Lib.wpList_append_own_string w hgd s x 47 9 ho W.heap.size 5 i0 Tryd.underlying47 Tryd.underlying9 hi hz0 hz1 hz2 v l.length (Lib.byteCells l) hs hown.1 ⟨m.toArray⟩ hx (by rw [hsz]; unfold maxLen; omega) (by rw [hsz]; omega) hown.2.2.2 ?_
  intro v' w' ho' hg' _
  refine h v' w' (hown.grow hg' ?_) hg'
  rw [hsz] at ho'
  rw [bc_app, List.length_append]; exact ho'
/-- the table of powers goes on reading so -/
def PT (w : World) : Prop := Lib.TabIs Tryd.prog w "internal/strconv.uint64pow10" .u64 Lib.pow10Tab
theorem PT.ext {w w' : World} (h : PT w) (g : Ext w w') : PT w' := by
  unfold PT Lib.TabIs World.var? at *
  cases hn : Tryd.prog.globalNamed "internal/strconv.uint64pow10" with
  | none => simp [hn] at h
  | some i =>
    simp only [hn, Option.bind_some] at h ⊢
    cases hb : w.heap[i]? with
    | none => rw [hb] at h; simp at h
    | some ob =>
      cases ob with
      | cells c t fr => rw [g.block hb, ← hb]; exact h
      | _ => rw [hb] at h; simp at h
theorem PT.below {W w : World} (h : PT W) (g : Ext W w) : Lib.TabBelow Tryd.prog W.heap.size w "internal/strconv.uint64pow10" .u64 Lib.pow10Tab :=
  fun _ hb => h.ext (ext_below g hb)
end Go.Proofs.YtejgmiljjpgbpaaDoor
