/- append of bytes to a row of the call's own. -/
import Derived.Lib.AppendStr
import Derived.Lib.AppendIntMem
import Derived.Laws.IdiomStrings
import Derived.Laws.BytesArg
import Derived.Lib.ParseIntB
import Derived.Lib.Strings
import Derived.Test.YtbplapkcleipiaaGreatDoorZz01
import Derived.Test.YtbplapkcleipiaaGreatDoorZz03
namespace Go.Proofs.YtbplapkcleipiaaGreatDoor
open Go.ChangeShapes Go.WideShapes Go.ChangeAt Go.RowKit

theorem infoB : (Tryz.prog.info? 5).map (fun i => (i.zero, i.size, i.bytes)) = some (some (.int .u8 0), 1, 1) := by kernel_rfl
theorem bc_len (l : List UInt8) : (Lib.byteCells l).length = l.length := by simp [Lib.byteCells]
theorem bc_app (l m : List UInt8) : Lib.byteCells (l ++ m) = Lib.byteCells l ++ Lib.byteCells m := by simp [Lib.byteCells]
theorem bc_one (l : List UInt8) : ∀ u ∈ Lib.byteCells l, u.oneCell' = true := by
  intro u hu
  unfold Lib.byteCells at hu
  simp at hu
  obtain ⟨a, _, rfl⟩ := hu; rfl
theorem bc_at (l : List UInt8) (i : Nat) (h : i < l.length) : (Lib.byteCells l)[i]? = some (.int .u8 l[i].toNat) := by simp [Lib.byteCells, h]
/-- the value is a slice whose cells hold these bytes -/
def RdB (w : World) (v : Value) (l : List UInt8) : Prop :=
  ∃ ad cap, v = .slice ad l.length cap ∧ l.length ≤ cap ∧ cap ≤ maxLen ∧ (ad = none → cap = 0) ∧
    ∀ (i : Nat) (h : i < l.length), ∃ g o, ad = some ⟨g, o, none⟩ ∧ w.cell? ⟨g, o + i, none⟩ = some (.int .u8 l[i].toNat)
/-- a row of bytes of the call's own: new behind W -/
def OwnB (W w : World) (v : Value) (l : List UInt8) : Prop := w.ownsRow W.heap.size 5 1 v l.length (Lib.byteCells l) ∧ Ext W w
theorem OwnB.nil (W w : World) (h : Ext W w) : OwnB W w (.slice none 0 0) [] := ⟨World.ownsRow_nil _ _ _ _, h⟩
theorem OwnB.ext {W w w' : World} {v : Value} {l : List UInt8} (h : OwnB W w v l) (e : Ext w w') : OwnB W w' v l := ⟨e.owns h.1, h.2.trans e⟩
theorem OwnB.grow {W w w' : World} {v v' : Value} {l m : List UInt8} (h : OwnB W w v l) (hg : w.grownBy w' v.ownBlock) (ho : w'.ownsRow W.heap.size 5 1 v' m.length (Lib.byteCells m)) : OwnB W w' v' m :=
  ⟨ho, ext_grownBy h.2 hg (fun k hk => (h.1.lt k hk).1)⟩
theorem OwnB.rd {W w : World} {v : Value} {l : List UInt8} (h : OwnB W w v l) : RdB w v l := by
  rcases h.1.2 with ⟨rfl, hn⟩ | ⟨g, cap, cur, rfl, hb, hg, hc, hm, hs, ht⟩
  · exact ⟨none, 0, by rw [hn], by omega, Nat.zero_le _, fun _ => rfl, fun i h => by omega⟩
  · refine ⟨some ⟨g, 0, none⟩, cap, rfl, hc, hm, (fun h => by cases h), fun i hi => ⟨g, 0, rfl, ?_⟩⟩
    rw [Nat.zero_add, h.1.cellAt i (by omega)]; exact bc_at l i hi
/-- a literal of one byte -/
theorem ownB_lit {W w : World} (h : Ext W w) (b : UInt8) (c : Int) (hc : c = b.toNat) (n : Nat) (hn : w.heap.size = n) : OwnB W (w.alloc (.cells #[.int .u8 c] 5)) (.slice (some ⟨n, 0, none⟩) 1 1) [b] := by
  subst hn hc
  refine ⟨⟨rfl, Or.inr ⟨w.heap.size, 1, #[.int .u8 b.toNat], rfl, h.2.2, (MapKept.heap_alloc w _).1, Nat.le_refl _, by unfold maxLen; omega, rfl, rfl⟩⟩, h.alloc _ _⟩
theorem rdB_lit (w : World) (b : UInt8) (c : Int) (hc : c = b.toNat) (n : Nat) (hn : w.heap.size = n) : RdB (w.alloc (.cells #[.int .u8 c] 5)) (.slice (some ⟨n, 0, none⟩) 1 1) [b] :=
  (ownB_lit (Ext.refl w) b c hc n hn).rd
theorem RdB.ext {w w' : World} {v : Value} {l : List UInt8} (h : RdB w v l) (e : Ext w w') : RdB w' v l := by
  obtain ⟨ad, cap, rfl, h1, h2, h3, h4⟩ := h
  refine ⟨ad, cap, rfl, h1, h2, h3, fun i hi => ?_⟩
  obtain ⟨g, o, rfl, c0⟩ := h4 i hi
  exact ⟨g, o, rfl, e.keeps c0⟩
theorem RdB.news {w : World} {ad : Addr} {n cap : Nat} {l : List UInt8} (h : RdB w (.slice (some ad) n cap) l) : ∀ j u, (Lib.byteCells l)[j]? = some u → w.cell? (ad.add j) = some u := by
  obtain ⟨ad', cap', e, h1, h2, h3, h4⟩ := h
  simp only [Value.slice.injEq] at e
  obtain ⟨rfl, rfl, rfl⟩ := e
  intro j u hj
  have hlt : j < l.length := by rw [← bc_len]; exact (List.getElem?_eq_some_iff.1 hj).1
  obtain ⟨g, o, e, c0⟩ := h4 j hlt
  simp only [Option.some.injEq] at e
  subst e
  have hadd : (⟨g, o, none⟩ : Addr).add j = ⟨g, o + j, none⟩ := by unfold Addr.add; split <;> simp_all
  rw [hadd, c0, ← bc_at l j hlt, hj]
/-- string(b) -/
theorem RdB.text {w : World} {v : Value} {l : List UInt8} (h : RdB w v l) : (convert 183 9 v).run Tryz.prog w = .ok (.string ⟨l.toArray⟩) w := by
  have h' := h
  obtain ⟨ad, cap, rfl, h1, h2, h3, h4⟩ := h
  cases ad with
  | none =>
    have hm : l = [] := List.eq_nil_of_length_eq_zero (by have := h3 rfl; omega)
    subst hm
    exact run_convert_bytes_nil (P := Tryz.prog) w 183 5 Tryz.underlying183 Tryz.underlying5 _ _ 9 Tryz.underlying9
  | some ad =>
    refine run_convert_bytes_back (P := Tryz.prog) w 183 9 5 ad cap l Tryz.underlying183 Tryz.underlying5 Tryz.underlying9 fun j hj => ?_
    exact h'.news j _ (bc_at l j hj)
theorem appB {w : World} {ops : Array Oper} {rest : List Oper} {o : Oper} {a : Act} {Q : Exit → Act → World → Prop} (hgd : o.guard = none) (s x : Operand)
    (ho : o.op = .call { callee := .builtin .append, args := #[s, x], argTypes := #[183, 183] })
    (W : World) (v : Value) (l : List UInt8) (hs : a.eval s = v) (hown : OwnB W w v l) (vx : Value) (m : List UInt8) (hx : a.eval x = vx) (hrd : RdB w vx m) (hlen : l.length + m.length ≤ 140737488355328)
    (h : ∀ v' w', OwnB W w' v' (l ++ m) → w.grownBy w' v.ownBlock → wpList Tryz.prog ops Q rest (a.put o.dst v') w') : wpList Tryz.prog ops Q (o :: rest) a w := by
  obtain ⟨i0, hi, hz0, hz1, hz2⟩ := info_parts infoB
  have hrd' := hrd
  obtain ⟨ad, cap, rfl, h1, h2, h3, h4⟩ := hrd
  cases ad with
  | some ad =>
    refine wpList_append_own w hgd s x 183 ho W.heap.size 5 i0 (.int .u8 0) 1 1 Tryz.underlying183 hi hz0 hz1 hz2 rfl (by decide) v l.length (Lib.byteCells l) hs hown.1 ad m.length cap (Lib.byteCells m) hx (by rw [bc_len, Nat.mul_one])
      hrd'.news (bc_one m) (by unfold maxLen; omega) (by omega) hown.2.2.2 ?_
    intro v' w' ho' hg' _
    refine h v' w' (hown.grow hg' ?_) hg'
    rw [bc_app, List.length_append]; exact ho'
  | none =>
    have hm : m = [] := List.eq_nil_of_length_eq_zero (by have := h3 rfl; omega)
    subst hm
    obtain rfl := h3 rfl
    refine wpList_plain hgd fun K hK' => ?_
    have hrun := run_append_owned_none (P := Tryz.prog) w W.heap.size 183 o.type 5 i0 1 Tryz.underlying183 hi _ l.length (Lib.byteCells l) hown.1
    unfold Oper.wp
    simp only [List.length_nil] at hx
    simp [execOp, ho, resolve, invoke, builtin, hs, hx, hrun, Result.andThen]
    exact hK' _ _ (h v w (by simpa using hown) (World.grownBy.refl _ _))
/-- append(b, s...) with a string -/
theorem appS {w : World} {ops : Array Oper} {rest : List Oper} {o : Oper} {a : Act} {Q : Exit → Act → World → Prop} (hgd : o.guard = none) (s x : Operand)
    (ho : o.op = .call { callee := .builtin .append, args := #[s, x], argTypes := #[183, 9] })
    (W : World) (v : Value) (l : List UInt8) (hs : a.eval s = v) (hown : OwnB W w v l) (m : List UInt8) (hx : a.eval x = .string ⟨m.toArray⟩) (hlen : l.length + m.length ≤ 140737488355328)
    (h : ∀ v' w', OwnB W w' v' (l ++ m) → w.grownBy w' v.ownBlock → wpList Tryz.prog ops Q rest (a.put o.dst v') w') : wpList Tryz.prog ops Q (o :: rest) a w := by
  obtain ⟨i0, hi, hz0, hz1, hz2⟩ := info_parts infoB
  have hsz : (⟨m.toArray⟩ : ByteArray).size = m.length := by simp [ByteArray.size]
  refine Lib.wpList_append_own_string w hgd s x 183 9 ho W.heap.size 5 i0 Tryz.underlying183 Tryz.underlying9 hi hz0 hz1 hz2 v l.length (Lib.byteCells l) hs hown.1 ⟨m.toArray⟩ hx (by rw [hsz]; unfold maxLen; omega) (by rw [hsz]; omega) hown.2.2.2 ?_
  intro v' w' ho' hg' _
  refine h v' w' (hown.grow hg' ?_) hg'
  rw [hsz] at ho'
  rw [bc_app, List.length_append]; exact ho'
/-- the table of powers goes on reading so -/
def PT (w : World) : Prop := Lib.TabIs Tryz.prog w "internal/strconv.uint64pow10" .u64 Lib.pow10Tab
theorem PT.ext {w w' : World} (h : PT w) (g : Ext w w') : PT w' := by
  unfold PT Lib.TabIs World.var? at *
  cases hn : Tryz.prog.globalNamed "internal/strconv.uint64pow10" with
  | none => simp [hn] at h
  | some i =>
    simp only [hn, Option.bind_some] at h ⊢
    cases hb : w.heap[i]? with
    | none => rw [hb] at h; simp at h
    | some ob =>
      cases ob with
      | cells c t fr => rw [g.block hb, ← hb]; exact h
      | _ => rw [hb] at h; simp at h
theorem PT.below {W w : World} (h : PT W) (g : Ext W w) : Lib.TabBelow Tryz.prog W.heap.size w "internal/strconv.uint64pow10" .u64 Lib.pow10Tab :=
  fun _ hb => h.ext (ext_below g hb)
end Go.Proofs.YtbplapkcleipiaaGreatDoor
/- Decimal numerals in plain lists. -/
namespace Go.Proofs.YtbplapkcleipiaaGreatDoor

def isDig (c : UInt8) : Bool := decide (48 ≤ c.toNat ∧ c.toNat ≤ 57)
def dvalA (acc : Nat) (l : List UInt8) : Nat := l.foldl (fun a c => a * 10 + (c.toNat - 48)) acc
def digs (l : List UInt8) : Bool := l.all isDig
def numS (neg : Bool) (d : List UInt8) : List UInt8 := if neg = true then 45 :: d else d
def sgn (neg : Bool) (u : Nat) : Int := if neg = true then -(u : Int) else u
def canon (neg : Bool) (d : List UInt8) : Bool := decide (¬ ((1 < d.length ∧ d.head? = some 48) ∨ (neg = true ∧ d = [48]) ∨ 9223372036854775808 < dvalA 0 d ∨ (dvalA 0 d = 9223372036854775808 ∧ neg = false)))
def numF (l : List UInt8) : Bool := digs (Lib.trimPrefix l [45]) && !(Lib.trimPrefix l [45]).isEmpty
def numT (l : List UInt8) : Option Int := if canon (l.head? == some 45) (Lib.trimPrefix l [45]) = true then some (sgn (l.head? == some 45) (dvalA 0 (Lib.trimPrefix l [45]))) else none

theorem dvalA_cons (acc : Nat) (c : UInt8) (r : List UInt8) : dvalA acc (c :: r) = dvalA (acc * 10 + (c.toNat - 48)) r := by unfold dvalA; rw [List.foldl_cons]
theorem dvalA_nil (acc : Nat) : dvalA acc [] = acc := rfl
theorem isDig_iff (c : UInt8) : isDig c = true ↔ 48 ≤ c.toNat ∧ c.toNat ≤ 57 := by unfold isDig; simp
theorem dvalA_snoc (acc : Nat) (l : List UInt8) (c : UInt8) : dvalA acc (l ++ [c]) = dvalA acc l * 10 + (c.toNat - 48) := by
  induction l generalizing acc with
  | nil => rw [List.nil_append, dvalA_cons, dvalA_nil, dvalA_nil]
  | cons x l ih => rw [List.cons_append, dvalA_cons, dvalA_cons]; exact ih _
theorem dvalA_ge (acc : Nat) (l : List UInt8) : acc ≤ dvalA acc l := by
  induction l generalizing acc with
  | nil => exact Nat.le_refl _
  | cons x l ih => have := ih (acc * 10 + (x.toNat - 48)); rw [dvalA_cons]; omega
theorem digs_cons (c : UInt8) (l : List UInt8) : digs (c :: l) = true ↔ isDig c = true ∧ digs l = true := by unfold digs; simp
theorem digs_app (a b : List UInt8) : digs (a ++ b) = true ↔ digs a = true ∧ digs b = true := by unfold digs; simp
theorem ofNat_dig (u : Nat) (h : u < 10) : (UInt8.ofNat (48 + u)).toNat = 48 + u := by rw [UInt8.toNat_ofNat']; omega
theorem dec_facts (u : Nat) : dvalA 0 (Lib.decDigits u) = u ∧ digs (Lib.decDigits u) = true ∧ Lib.decDigits u ≠ [] ∧ ((Lib.decDigits u).head? = some 48 → u = 0) := by
  induction u using Nat.strongRecOn with
  | _ u ih =>
    by_cases h : u < 10
    · rw [Lib.decDigits, dif_pos h]
      have e := ofNat_dig u h
      refine ⟨?_, ?_, by simp, ?_⟩
      · rw [dvalA_cons, dvalA_nil, e]; omega
      · rw [digs_cons, isDig_iff, e]; exact ⟨by omega, rfl⟩
      · intro hh
        simp only [List.head?_cons, Option.some.injEq] at hh
        have : (UInt8.ofNat (48 + u)).toNat = (48 : UInt8).toNat := by rw [hh]
        rw [e] at this
        simpa using this
    · rw [Lib.decDigits, dif_neg h]
      obtain ⟨i1, i2, i3, i4⟩ := ih (u / 10) (by omega)
      have e := ofNat_dig (u % 10) (by omega)
      refine ⟨?_, ?_, by simp, ?_⟩
      · rw [dvalA_snoc, i1, e]; omega
      · rw [digs_app, digs_cons, isDig_iff, e]; exact ⟨i2, by omega, rfl⟩
      · intro hh
        have : (Lib.decDigits (u / 10)).head? = some 48 := by
          cases hd : Lib.decDigits (u / 10) with
          | nil => exact absurd hd i3
          | cons x r => rw [hd] at hh; simpa using hh
        have := i4 this
        omega
theorem dval_pos (d : List UInt8) (hd : digs d = true) (hn : d ≠ []) (hh : d.head? ≠ some 48) : 1 ≤ dvalA 0 d := by
  cases d with
  | nil => exact absurd rfl hn
  | cons c r =>
    have := dvalA_ge (0 * 10 + (c.toNat - 48)) r
    have hc := (isDig_iff c).1 ((digs_cons c r).1 hd).1
    have : c.toNat ≠ 48 := by
      intro e
      apply hh
      simp only [List.head?_cons, Option.some.injEq]
      exact UInt8.toNat_inj.1 e
    rw [dvalA_cons]
    omega
theorem dig_back (c : UInt8) (h : isDig c = true) : UInt8.ofNat (48 + (c.toNat - 48)) = c := by
  have := (isDig_iff c).1 h
  rw [show 48 + (c.toNat - 48) = c.toNat by omega]
  exact UInt8.toNat_inj.1 (by rw [UInt8.toNat_ofNat']; omega)
theorem dec_of_rev (r : List UInt8) : digs r.reverse = true → r ≠ [] → (r.length = 1 ∨ r.reverse.head? ≠ some 48) → Lib.decDigits (dvalA 0 r.reverse) = r.reverse := by
  induction r with
  | nil => intro _ h; exact absurd rfl h
  | cons c r ih =>
    intro hd _ hh
    rw [List.reverse_cons] at hd hh ⊢
    obtain ⟨h1, h2⟩ := (digs_app _ _).1 hd
    have hc : isDig c = true := ((digs_cons c []).1 h2).1
    have hcb := (isDig_iff c).1 hc
    rw [dvalA_snoc]
    by_cases hr : r = []
    · subst hr
      rw [List.reverse_nil, dvalA_nil, List.nil_append]
      rw [Lib.decDigits, dif_pos (by omega), show 48 + (0 * 10 + (c.toNat - 48)) = 48 + (c.toNat - 48) by omega, dig_back c hc]
    · have hrev : r.reverse ≠ [] := by simpa using hr
      have hhead : r.reverse.head? ≠ some 48 := by
        rcases hh with hh | hh
        · simp at hh; exact absurd hh hr
        · intro e
          apply hh
          cases hx : r.reverse with
          | nil => exact absurd hx hrev
          | cons x y => rw [hx] at e; simpa using e
      have hp := dval_pos _ h1 hrev hhead
      rw [Lib.decDigits, dif_neg (by omega), show (dvalA 0 r.reverse * 10 + (c.toNat - 48)) / 10 = dvalA 0 r.reverse by omega, show (dvalA 0 r.reverse * 10 + (c.toNat - 48)) % 10 = c.toNat - 48 by omega, dig_back c hc, ih h1 hr (Or.inr hhead)]
theorem dec_of (d : List UInt8) (hd : digs d = true) (hn : d ≠ []) (hh : d.length = 1 ∨ d.head? ≠ some 48) : Lib.decDigits (dvalA 0 d) = d := by
  have := dec_of_rev d.reverse (by simpa using hd) (by simpa using hn) (by simpa using hh)
  simpa using this
theorem dec_zero : Lib.decDigits 0 = [48] := by rw [Lib.decDigits, dif_pos (by omega)]; rfl
theorem dec_iff (d : List UInt8) (hd : digs d = true) (hn : d ≠ []) : Lib.decDigits (dvalA 0 d) = d ↔ ¬ (1 < d.length ∧ d.head? = some 48) := by
  constructor
  · rintro e ⟨h1, h2⟩
    have hf := (dec_facts (dvalA 0 d)).2.2.2
    rw [e] at hf
    rw [hf h2, dec_zero] at e
    rw [← e] at h1
    simp at h1
  · intro h
    refine dec_of d hd hn ?_
    by_cases h1 : 1 < d.length
    · exact Or.inr fun e => h ⟨h1, e⟩
    · left
      have : 0 < d.length := List.length_pos_iff.2 hn
      omega
theorem itoa_iff (neg : Bool) (d : List UInt8) (hd : digs d = true) (hn : d ≠ []) : Lib.itoa (sgn neg (dvalA 0 d)) = numS neg d ↔ ¬ (1 < d.length ∧ d.head? = some 48) ∧ ¬ (neg = true ∧ d = [48]) := by
  cases neg with
  | false =>
    simp only [sgn, numS, Bool.false_eq_true, if_false, false_and, not_false_eq_true, and_true]
    rw [Lib.itoa, if_neg (by omega), show ((dvalA 0 d : Nat) : Int).toNat = dvalA 0 d by omega]
    exact dec_iff d hd hn
  | true =>
    simp only [sgn, numS, if_true, true_and]
    by_cases h0 : dvalA 0 d = 0
    · rw [h0, Lib.itoa, if_neg (by simp), show ((-((0 : Nat) : Int))).toNat = 0 by simp, dec_zero]
      constructor
      · intro e; simp at e
      · rintro ⟨h1, h2⟩
        exfalso
        have := dec_of d hd hn (by
          by_cases h : 1 < d.length
          · exact Or.inr fun e => h1 ⟨h, e⟩
          · left
            have : 0 < d.length := List.length_pos_iff.2 hn
            omega)
        rw [h0, dec_zero] at this
        exact h2 this.symm
    · rw [Lib.itoa, if_pos (by omega), show (-((dvalA 0 d : Nat) : Int)).natAbs = dvalA 0 d by omega]
      rw [List.cons.injEq, dec_iff d hd hn]
      simp only [true_and]
      constructor
      · intro h
        exact ⟨h, fun e => by rw [e, dvalA_cons, dvalA_nil] at h0; exact h0 rfl⟩
      · exact fun h => h.1
theorem trim_neg (d : List UInt8) : Lib.trimPrefix (45 :: d) [45] = d := by simp [Lib.trimPrefix, Lib.hasPrefix]
theorem dig_ne (c x : UInt8) (h : isDig c = true) (hx : isDig x = false) : c ≠ x := by intro e; rw [e, hx] at h; cases h
theorem trim_pos (d : List UInt8) (hd : digs d = true) : Lib.trimPrefix d [45] = d := by
  cases d with
  | nil => simp [Lib.trimPrefix, Lib.hasPrefix]
  | cons c r =>
    have := dig_ne c 45 ((digs_cons c r).1 hd).1 (by decide)
    simp [Lib.trimPrefix, Lib.hasPrefix, Ne.symm this]
theorem trim_num (neg : Bool) (d : List UInt8) (hd : digs d = true) : Lib.trimPrefix (numS neg d) [45] = d := by
  cases neg
  · exact trim_pos d hd
  · exact trim_neg d
theorem head_num (neg : Bool) (d : List UInt8) (hd : digs d = true) : ((numS neg d).head? == some 45) = neg := by
  cases neg
  · cases d with
    | nil => rfl
    | cons c r =>
      have := dig_ne c 45 ((digs_cons c r).1 hd).1 (by decide)
      simp [numS, this]
  · simp [numS]
theorem numF_of (neg : Bool) (d : List UInt8) (hd : digs d = true) (hn : d ≠ []) : numF (numS neg d) = true := by
  unfold numF; rw [trim_num neg d hd, hd]; simpa using hn
theorem num_split (l : List UInt8) (h : numF l = true) : ∃ neg d, l = numS neg d ∧ digs d = true ∧ d ≠ [] := by
  unfold numF at h
  rw [Bool.and_eq_true] at h
  obtain ⟨h1, h2⟩ := h
  have h3 : Lib.trimPrefix l [45] ≠ [] := by intro e; rw [e] at h2; simp at h2
  by_cases hp : Lib.hasPrefix l [45] = true
  · refine ⟨true, Lib.trimPrefix l [45], ?_, h1, h3⟩
    cases l with
    | nil => simp [Lib.hasPrefix] at hp
    | cons c r =>
      simp [Lib.hasPrefix] at hp
      subst hp
      rw [trim_neg]; rfl
  · refine ⟨false, l, rfl, ?_, ?_⟩
    · rw [Lib.trimPrefix, if_neg hp] at h1; exact h1
    · rw [Lib.trimPrefix, if_neg hp] at h3; exact h3
theorem numT_num (neg : Bool) (d : List UInt8) (hd : digs d = true) : numT (numS neg d) = if canon neg d = true then some (sgn neg (dvalA 0 d)) else none := by
  unfold numT; rw [trim_num neg d hd, head_num neg d hd]
theorem pu_of (d : List UInt8) : ∀ acc, digs d = true → acc ≤ 18446744073709551615 → Lib.parseUintM 18446744073709551615 acc d = if dvalA acc d ≤ 18446744073709551615 then .ok (dvalA acc d) else .range := by
  induction d with
  | nil => intro acc _ h; rw [dvalA_nil, if_pos h]; rfl
  | cons c r ih =>
    intro acc hd ha
    obtain ⟨hc, hr⟩ := (digs_cons c r).1 hd
    have hcb := (isDig_iff c).1 hc
    have hge := dvalA_ge (acc * 10 + (c.toNat - 48)) r
    rw [Lib.parseUintM, if_pos hcb, dvalA_cons]
    by_cases h1 : 1844674407370955162 ≤ acc
    · rw [if_pos h1, if_neg (by omega)]
    · rw [if_neg h1]
      by_cases h2 : 18446744073709551615 < acc * 10 + (c.toNat - 48)
      · rw [if_pos h2, if_neg (by omega)]
      · rw [if_neg h2, ih _ hr (by omega)]
theorem pi_of (neg : Bool) (d : List UInt8) (hd : digs d = true) (hn : d ≠ []) :
    Lib.parseIntB 64 (numS neg d) = if 9223372036854775808 < dvalA 0 d ∨ (dvalA 0 d = 9223372036854775808 ∧ neg = false) then .range else .ok (sgn neg (dvalA 0 d)) := by
  have hu : Lib.parseUintB 64 d = if dvalA 0 d ≤ 18446744073709551615 then .ok (dvalA 0 d) else .range := by
    unfold Lib.parseUintB
    rw [if_neg hn, show (2 ^ 64 - 1 : Nat) = 18446744073709551615 by decide]
    exact pu_of d 0 hd (by omega)
  cases neg with
  | true =>
    simp only [numS, if_true, sgn, Lib.parseIntB]
    rw [if_pos (by decide), hu]
    by_cases h1 : dvalA 0 d ≤ 18446744073709551615
    · rw [if_pos h1]
      simp only [show (64 - 1 : Nat) = 63 by decide, show (2 ^ 63 : Nat) = 9223372036854775808 by decide, show ((45 : UInt8).toNat = 45) = True by simp, not_true_eq_false, false_and, if_false, true_and, if_true]
      by_cases h2 : 9223372036854775808 < dvalA 0 d
      · rw [if_pos h2, if_pos (Or.inl h2)]
      · rw [if_neg h2, if_neg (by simp; omega)]
    · rw [if_neg h1, if_pos (Or.inl (by omega))]
  | false =>
    cases d with
    | nil => exact absurd rfl hn
    | cons c r =>
      obtain ⟨hc, hr⟩ := (digs_cons c r).1 hd
      have hcb := (isDig_iff c).1 hc
      simp only [numS, Bool.false_eq_true, if_false, sgn, Lib.parseIntB]
      rw [if_neg (show ¬ (c.toNat = 43 ∨ c.toNat = 45) by omega), hu]
      by_cases h1 : dvalA 0 (c :: r) ≤ 18446744073709551615
      · rw [if_pos h1]
        simp only [show (64 - 1 : Nat) = 63 by decide, show (2 ^ 63 : Nat) = 9223372036854775808 by decide, show (c.toNat = 45) = False by simp; omega, not_false_eq_true, false_and, if_false, true_and]
        by_cases h2 : 9223372036854775808 ≤ dvalA 0 (c :: r)
        · rw [if_pos h2, if_pos (by simp; omega)]
        · rw [if_neg h2, if_neg (by simp; omega)]
      · rw [if_neg h1, if_pos (Or.inl (by omega))]
/-- what the program's test finds -/
theorem num_cases (l : List UInt8) (h : numF l = true) :
    (Lib.parseIntB 64 l = .range ∧ numT l = none) ∨ ∃ v, Lib.parseIntB 64 l = .ok v ∧ -9223372036854775808 ≤ v ∧ v ≤ 9223372036854775807 ∧ ((Lib.itoa v = l ∧ numT l = some v) ∨ (Lib.itoa v ≠ l ∧ numT l = none)) := by
  obtain ⟨neg, d, rfl, hd, hn⟩ := num_split l h
  rw [pi_of neg d hd hn, numT_num neg d hd]
  by_cases h1 : 9223372036854775808 < dvalA 0 d ∨ (dvalA 0 d = 9223372036854775808 ∧ neg = false)
  · left
    rw [if_pos h1, if_neg]
    · exact ⟨rfl, rfl⟩
    · unfold canon; rw [decide_eq_true_eq]; intro hc; exact hc (Or.inr (Or.inr h1))
  · right
    rw [if_neg h1]
    refine ⟨_, rfl, ?_, ?_, ?_⟩
    · unfold sgn; cases neg <;> simp at * <;> omega
    · unfold sgn; cases neg <;> simp at * <;> omega
    by_cases h2 : (1 < d.length ∧ d.head? = some 48) ∨ (neg = true ∧ d = [48])
    · right
      refine ⟨fun e => ?_, ?_⟩
      · have := (itoa_iff neg d hd hn).1 e
        rcases h2 with h2 | h2
        · exact this.1 h2
        · exact this.2 h2
      · rw [if_neg]; unfold canon; rw [decide_eq_true_eq]; intro hc; apply hc; rcases h2 with h2 | h2
        · exact Or.inl h2
        · exact Or.inr (Or.inl h2)
    · left
      refine ⟨(itoa_iff neg d hd hn).2 ⟨fun e => h2 (Or.inl e), fun e => h2 (Or.inr e)⟩, ?_⟩
      rw [if_pos]; unfold canon; rw [decide_eq_true_eq]; intro hc
      rcases hc with hc | hc | hc
      · exact h2 (Or.inl hc)
      · exact h2 (Or.inr hc)
      · exact h1 hc
theorem itoa_num (n : Int) : Lib.itoa n = numS (decide (n < 0)) (Lib.decDigits n.natAbs) := by
  unfold Lib.itoa numS
  by_cases h : n < 0
  · simp [h]
  · simp [h]; congr 1; omega
theorem numF_itoa (n : Int) : numF (Lib.itoa n) = true := by
  rw [itoa_num]; exact numF_of _ _ (dec_facts _).2.1 (dec_facts _).2.2.1
theorem numT_itoa (n : Int) (h0 : -9223372036854775808 ≤ n) (h1 : n ≤ 9223372036854775807) : numT (Lib.itoa n) = some n := by
  obtain ⟨e1, e2, e3, e4⟩ := dec_facts n.natAbs
  rcases num_cases _ (numF_itoa n) with ⟨hr, _⟩ | ⟨v, hv, _, _, hc⟩
  · rw [itoa_num, pi_of _ _ e2 e3, e1, if_neg] at hr
    · cases hr
    · by_cases h : n < 0
      · simp [h]; omega
      · simp [h]; omega
  · have hv2 : v = n := by
      rw [itoa_num, pi_of _ _ e2 e3, e1] at hv
      split at hv
      · cases hv
      · injection hv with hv
        rw [← hv]; unfold sgn
        by_cases h : n < 0
        · simp [h]; omega
        · simp [h]; omega
    subst hv2
    rcases hc with ⟨_, hc⟩ | ⟨hc, _⟩
    · exact hc
    · exact absurd rfl hc
theorem itoa_numV (l : List UInt8) (n : Int) (h : numF l = true) (hv : numT l = some n) : Lib.itoa n = l ∧ -9223372036854775808 ≤ n ∧ n ≤ 9223372036854775807 := by
  rcases num_cases l h with ⟨_, hc⟩ | ⟨v, _, h0, h1, ⟨he, hc⟩ | ⟨_, hc⟩⟩
  · rw [hc] at hv; cases hv
  · rw [hc] at hv; injection hv with hv; subst hv; exact ⟨he, h0, h1⟩
  · rw [hc] at hv; cases hv
theorem itoa_chars (n : Int) (c : UInt8) (h : c ∈ Lib.itoa n) : isDig c = true ∨ c = 45 := by
  rw [itoa_num] at h
  have hd : digs (Lib.decDigits n.natAbs) = true := (dec_facts _).2.1
  unfold digs at hd
  rw [List.all_eq_true] at hd
  unfold numS at h
  split at h
  · rcases List.mem_cons.1 h with h | h
    · exact Or.inr h
    · exact Or.inl (hd _ h)
  · exact Or.inl (hd _ h)
theorem itoa_ne (n : Int) : Lib.itoa n ≠ [] := by
  rw [itoa_num]; unfold numS; split
  · simp
  · exact (dec_facts _).2.2.1
theorem itoa_inj (a b : Int) (h : Lib.itoa a = Lib.itoa b) : a = b := by
  rw [itoa_num, itoa_num] at h
  obtain ⟨a1, a2, a3, _⟩ := dec_facts a.natAbs
  obtain ⟨b1, b2, b3, _⟩ := dec_facts b.natAbs
  have hn : decide (a < 0) = decide (b < 0) := by
    have := congrArg (fun l => (l.head? == some (45 : UInt8))) h
    rwa [head_num _ _ a2, head_num _ _ b2] at this
  have hd : Lib.decDigits a.natAbs = Lib.decDigits b.natAbs := by
    have := congrArg (fun l => Lib.trimPrefix l [45]) h
    rwa [trim_num _ _ a2, trim_num _ _ b2] at this
  have hv : a.natAbs = b.natAbs := by rw [← a1, ← b1, hd]
  have hs : a < 0 ↔ b < 0 := by simpa using hn
  omega
end Go.Proofs.YtbplapkcleipiaaGreatDoor
