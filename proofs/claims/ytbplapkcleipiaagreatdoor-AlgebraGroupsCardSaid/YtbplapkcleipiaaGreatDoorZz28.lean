/- Evaluating a query, of the program: the lineage of a class. -/
import Derived.Deep.QuietTactic
import Derived.BigQuiet
import Derived.Maps.Own
import Derived.Maps.OwnOps
import Derived.Maps.OwnSet
import Derived.Test.YtbplapkcleipiaaGreatDoorZz05
import Derived.Test.YtbplapkcleipiaaGreatDoorZz06
import Derived.Test.YtbplapkcleipiaaGreatDoorZz09
import Derived.Test.YtbplapkcleipiaaGreatDoorZz27
namespace Go.Proofs.YtbplapkcleipiaaGreatDoor
open Go.ChangeShapes Go.WideShapes Go.ChangeAt Go.RowKit

def LiR (W1 : World) (l : List R) (v i : Value) (wr : World) : Prop := ∃ k : Nat, k ≤ l.length ∧ i = .int .i64 k ∧ OwnG tI.e W1 wr v ((l.take k).flatMap R.t)
theorem li_step (l : List R) (k : Nat) (h : k < l.length) : (l.take (k + 1)).flatMap R.t = (l.take k).flatMap R.t ++ l[k].t := by
  rw [List.take_succ_eq_append_getElem h, List.flatMap_append]; simp
theorem li_pre (l : List R) (k : Nat) : ((l.take k).flatMap R.t).length ≤ (l.flatMap R.t).length := by
  have : l.flatMap R.t = (l.take k).flatMap R.t ++ (l.drop k).flatMap R.t := by rw [← List.flatMap_append, List.take_append_drop]
  rw [this, List.length_append]; omega
set_option maxHeartbeats 4000000 in
set_option maxRecDepth 100000 in
theorem lin_prg (l : List R) (a1 : Option Addr) (n1 c1 : Nat) (vr : Value) (S : Nat → Prop) (w : World) (hr : RdR S w vr l) (hlen : (l.flatMap R.t).length ≤ 100000000) :
    Calls Tryz.prog 104 #[.agg #[.slice a1 n1 c1, vr]] w fun e w' => ∃ v, e = .returned v ∧ OwnG tI.e w w' v (linR l) := by
  obtain ⟨ps, h1, h2, h3, rfl⟩ := hr
  obtain ⟨bd, bcap, rfl, b1, b2⟩ := h1.shape
  have HP := Lib.hid h1
  have HF := Lib.hid h3
  have HLN := Lib.hid hlen
  clear h1 h2 h3 hlen
  obtain ⟨t, ht⟩ : ∃ t, t = ps.length := ⟨_, rfl⟩
  have HT := Lib.hid ht
  rw [← ht] at HP b1 ⊢
  clear ht
  unfold maxLen at b2
  obtain ⟨W1, hW⟩ : ∃ W1, W1 = w.alloc (.cells #[.slice a1 n1 c1, .slice bd t bcap] 163) := ⟨_, rfl⟩
  have HW := Lib.hid (show Ext w W1 by rw [hW]; exact (Ext.refl _).alloc _ _)
  have hW' := Lib.hid hW
  clear hW
  go_enter Tryz.func104, Tryz.ntmps104
  go_wp2_with fail
  go_loopw [3, 9] (LiR W1 (rows ps)) (fun _ i _ => t - (intOf i).toNat)
  case atStart => exact ⟨0, Nat.zero_le _, rfl, by rw [← hW'.out]; exact OwnG.nil _ _ _ (Ext.refl _)⟩
  case round =>
    obtain ⟨k, hk, rfl, hO⟩ := hrel
    rw [rows_len] at hk
    have hkt : k ≤ t := by rw [HT.out]; exact hk
    have hEw := Lib.hid (HW.out.trans hO.2)
    by_cases hlt : k < t
    · have hlt' : k < ps.length := by rw [← HT.out]; exact hlt
      have hlr : k < (rows ps).length := by rw [rows_len]; exact hlt'
      obtain ⟨g, o, rfl, d0', d1'⟩ := rd_P HP.out k hlt'
      have d0 := hEw.out.keeps d0'
      have d1 := hEw.out.keeps d1'
      clear d0' d1'
      have hst := li_step (rows ps) k hlr
      have hp1 := li_pre (rows ps) (k + 1)
      rw [hst, List.length_append] at hp1
      rw [rows_at ps k hlt'] at hst hp1
      have hfi := HF.out ps[k] (List.getElem_mem _)
      generalize ps[k] = y at *
      obtain ⟨⟨xa, xn, xc, xb, xm, xd⟩, xr⟩ := y
      simp only [Hd.x, Hd.y] at d0 d1 hfi hst hp1
      have HFI := Lib.hid (show RdG w (.slice xb xm xd) xr.t from hfi.1.2)
      have HST := Lib.hid hst
      have HP1 := Lib.hid (show ((rows ps).take k |>.flatMap R.t).length + xr.t.length ≤ 100000000 from Nat.le_trans hp1 HLN.out)
      have HL := Lib.hid hlt'
      have hO1 := hO.ext ((Ext.refl wr).alloc #[.slice xa xn xc, .slice xb xm xd] 51)
      have HO1 := Lib.hid hO1
      clear hfi hst hp1 hO hO1
      generalize ((rows ps).take k).flatMap R.t = pre at *
      go_wp2_with (at_builtin; refine appG tI rfl _ _ rfl W1 _ pre rfl HO1.out _ xr.t rfl (HFI.out.ext (HW.out.trans HO1.out.2)) (by have := HP1.out; omega) ?_; intro v' w' hO' hg')
      go_roundw
      case rel => exact ⟨k + 1, by rw [rows_len]; exact HL.out, by go_num, by rw [HST.out]; exact hO'⟩
      case measure => simp [intOf]; omega
    · have hke : (rows ps).take k = rows ps := List.take_of_length_le (by rw [rows_len]; have := HT.out; omega)
      rw [hke] at hO
      have HO := Lib.hid hO
      clear hke hO
      go_wp2_with fail
      refine (ml_own ((rows ps).flatMap R.t) [] _ _ wr HO.out.rd (rdG_nil _) (by rw [List.length_nil]; have := HLN.out; omega)).mono ?_; rintro e w2 ⟨v2, rfl, hO2⟩
      rw [List.append_nil] at hO2
      have HO2 := Lib.hid hO2
      clear hO2
      go_wp2_with fail
      go_ret
      exact ⟨_, rfl, HO2.out.base hEw.out⟩
end Go.Proofs.YtbplapkcleipiaaGreatDoor
/- Slices of values that are only read; boxes of values. -/
namespace Go.Proofs.YtbplapkcleipiaaGreatDoor
open Go.ChangeShapes Go.WideShapes Go.ChangeAt Go.RowKit

/-- the value is a slice whose cells hold these values -/
def RdV (w : World) (v : Value) (l : List V) : Prop :=
  ∃ ad cap, v = .slice ad l.length cap ∧ l.length ≤ cap ∧ cap ≤ maxLen ∧ (ad = none → cap = 0) ∧
    ∀ (i : Nat) (h : i < l.length), ∃ g o, ad = some ⟨g, o, none⟩ ∧ w.cell? ⟨g, o + i * 3, none⟩ = some (.int .i64 l[i].k) ∧ w.cell? ⟨g, o + i * 3 + 1, none⟩ = some (.int .i64 l[i].n) ∧ w.cell? ⟨g, o + i * 3 + 2, none⟩ = some (sv l[i].s)
theorem RdV.ext {w w' : World} {v : Value} {l : List V} (h : RdV w v l) (e : Ext w w') : RdV w' v l := by
  obtain ⟨ad, cap, rfl, h1, h2, h3, h4⟩ := h
  refine ⟨ad, cap, rfl, h1, h2, h3, fun i hi => ?_⟩
  obtain ⟨g, o, rfl, c0, c1, c2⟩ := h4 i hi
  exact ⟨g, o, rfl, e.keeps c0, e.keeps c1, e.keeps c2⟩
theorem rdV_nil (w : World) : RdV w (.slice none 0 0) [] := ⟨none, 0, rfl, Nat.le_refl _, Nat.zero_le _, fun _ => rfl, fun i h => by simp at h⟩
/-- the numbers fit their kinds -/
def OkL (l : List V) : Prop := ∀ (i : Nat) (h : i < l.length), -9223372036854775808 ≤ l[i].k ∧ l[i].k ≤ 9223372036854775807 ∧ -9223372036854775808 ≤ l[i].n ∧ l[i].n ≤ 9223372036854775807
/-- a box of a value -/
def Box (w : World) (b : Nat) (v : V) : Prop := w.heap[b]? = some (.cells #[.int .i64 v.k, .int .i64 v.n, sv v.s] 58 (0, 0))
theorem Box.new (w : World) (v : V) : Box (w.alloc (.cells #[.int .i64 v.k, .int .i64 v.n, sv v.s] 58)) w.heap.size v := (MapKept.heap_alloc w _).1
theorem Box.lt {w : World} {b : Nat} {v : V} (h : Box w b v) : b < w.heap.size := (Array.getElem?_eq_some_iff.1 h).1
theorem Box.c0 {w : World} {b : Nat} {v : V} (h : Box w b v) : w.cell? ⟨b, 0, none⟩ = some (.int .i64 v.k) := by unfold Box at h; rw [World.cell?, h]; rfl
theorem Box.c1 {w : World} {b : Nat} {v : V} (h : Box w b v) : w.cell? ⟨b, 1, none⟩ = some (.int .i64 v.n) := by unfold Box at h; rw [World.cell?, h]; rfl
theorem Box.c2 {w : World} {b : Nat} {v : V} (h : Box w b v) : w.cell? ⟨b, 2, none⟩ = some (sv v.s) := by unfold Box at h; rw [World.cell?, h]; rfl
theorem Box.alloc {w : World} {b : Nat} {v : V} (h : Box w b v) (o : Obj) : Box (w.alloc o) b v := by
  have hl := h.lt
  unfold Box at *; rw [Below.heap_alloc _ _ _ hl]; exact h
theorem Box.others {w w' : World} {b : Nat} {v : V} (h : Box w b v) (k : Lib.OthersKept 5 none w w') : Box w' b v :=
  k b _ h (by simp) (fun c fz e => by injection e with _ e; exact absurd e (by decide))
theorem OwnB.ne {W w : World} {v : Value} {l : List UInt8} (hO : OwnB W w v l) {b : Nat} {u : V} (h : Box w b u) : v.ownBlock ≠ some b := by
  rcases hO.1.2 with ⟨rfl, _⟩ | ⟨g, cap, cur, rfl, hb, hg, _⟩
  · simp [Value.ownBlock]
  · intro e
    simp only [Value.ownBlock, Option.some.injEq] at e
    subst e
    unfold Box at h
    rw [hg] at h
    injection h with h
    injection h with _ h
    exact absurd h (by decide)
theorem Box.grow {W w w' : World} {v : Value} {l : List UInt8} {b : Nat} {u : V} (h : Box w b u) (hO : OwnB W w v l) (hg : w.grownBy w' v.ownBlock) : Box w' b u := by
  have hl := h.lt
  have hn := hO.ne h
  unfold Box at *
  rw [hg.block b hl (fun e => hn e.symm)]; exact h
def AiP (W w : World) (l : List UInt8) (i : Int) (e : Ending) (w' : World) : Prop := ∃ v', e = .returned v' ∧ OwnB W w' v' (l ++ Lib.itoa i) ∧ Lib.OthersKept 5 none w w'
theorem ai_call (W w : World) (v : Value) (l : List UInt8) (i : Int) (hO : OwnB W w v l) (hT : PT W) (h0 : -9223372036854775808 ≤ i) (h1 : i ≤ 9223372036854775807) (hlim : l.length + 21 ≤ 140737488355328) :
    Calls Tryz.prog 130 #[v, .int .i64 i, .int .i64 10] w (AiP W w l i) := by
  refine (Tryz.strconv_AppendInt_10 W.heap.size l.length i h0 h1 v (Lib.byteCells l) w hO.1 hO.2.2.2 hlim (hT.below hO.2)).mono ?_
  rintro e w' ⟨v', rfl, ho, hb, hk⟩
  refine ⟨v', rfl, ⟨?_, ext_below hO.2 hb⟩, hk⟩
  rw [bc_app, List.length_append]; exact ho
end Go.Proofs.YtbplapkcleipiaaGreatDoor
/- The program's Key: only the table of powers of ten is asked. -/
namespace Go.Proofs.YtbplapkcleipiaaGreatDoor
open Go.ChangeShapes Go.WideShapes Go.ChangeAt Go.RowKit

theorem ret_sv9 {a b : List UInt8} (h : a = b) : Ending.returned (sv a) = .returned (sv b) := by rw [h]
theorem key_take9 (l : List V) (k : Nat) (h : k < l.length) : keyL (l.take k) ++ Lib.itoa l[k].k ++ [44] ++ Lib.itoa l[k].n ++ [44] ++ Lib.itoa l[k].s.length ++ [58] ++ l[k].s = keyL (l.take (k + 1)) := by
  rw [List.take_succ_eq_append_getElem h, keyL_snoc]
theorem key_le9 (l : List V) (k : Nat) : (keyL (l.take k)).length ≤ (keyL l).length := by
  have := keyL_app (l.take k) (l.drop k)
  rw [List.take_append_drop] at this
  rw [this]; simp
def KyR9 (w : World) (l : List V) (b i : Value) (wr : World) : Prop := ∃ k : Nat, k ≤ l.length ∧ i = .int .i64 k ∧ OwnB w wr b (keyL (l.take k))
set_option maxHeartbeats 4000000 in
set_option maxRecDepth 100000 in
theorem key_pt (l : List V) (v : Value) (w : World) (hG : PT w) (hr : RdV w v l) (hok : OkL l) (hlen : (keyL l).length ≤ 70368744177664) : Calls Tryz.prog 101 #[v] w fun e w' => e = .returned (sv (keyL l)) ∧ Ext w w' := by
  obtain ⟨ad, cap, rfl, h1, h2, h3, h4⟩ := hr
  have H4 := Lib.hid h4
  have HO := Lib.hid hok
  have HG := Lib.hid hG
  clear h3 h4 hok hG
  obtain ⟨n, hn⟩ : ∃ n, n = l.length := ⟨_, rfl⟩
  have HN := Lib.hid hn
  rw [← hn] at h1 ⊢
  clear hn
  unfold maxLen at h2
  go_enter Tryz.func101, Tryz.ntmps101
  go_wp2_with fail
  go_loopw [3, 8] (KyR9 w l) (fun _ i _ => n - (intOf i).toNat)
  case atStart => exact ⟨0, Nat.zero_le _, rfl, OwnB.nil _ _ (Ext.refl _)⟩
  case round =>
    obtain ⟨k, hk, rfl, hO⟩ := hrel
    have hkn : k ≤ n := by rw [HN.out]; exact hk
    have hkl := key_le9 l k
    by_cases hlt : k < n
    · have hlt' : k < l.length := by rw [← HN.out]; exact hlt
      have hst := key_take9 l k hlt'
      have hkl2 := key_le9 l (k + 1)
      obtain ⟨o1, o2, o3, o4⟩ := HO.out k hlt'
      obtain ⟨g, o, rfl, c0', c1', c2'⟩ := H4.out k hlt'
      have c0 := hO.2.keeps c0'
      have c1 := hO.2.keeps c1'
      have c2 := hO.2.keeps c2'
      generalize l[k] = u at *
      obtain ⟨uk, un, us⟩ := u
      simp only at hst c0 c1 c2 o1 o2 o3 o4
      have HS := Lib.hid hst
      have hus : (keyL (l.take k)).length + (Lib.itoa uk).length + (Lib.itoa un).length + (Lib.itoa us.length).length + us.length + 3 ≤ 70368744177664 := by
        have := congrArg List.length hst
        simp only [List.length_append, List.length_cons, List.length_nil] at this
        omega
      clear c0' c1' c2' hst hkl2
      generalize keyL (l.take k) = L at *
      have hb0 := Box.new wr ⟨uk, un, us⟩
      go_wp2_with fail
      refine (ai_call w _ _ L uk (hO.ext ((Ext.refl _).alloc _ _)) HG.out o1 o2 (by omega)).mono ?_; rintro e x1 ⟨v1, rfl, hO1, hk1⟩
      have hb1 := hb0.others hk1
      go_wp2_with (at_builtin; refine appB rfl _ _ rfl w _ _ rfl (hO1.ext ((Ext.refl _).alloc _ _)) _ [44] rfl (rdB_lit x1 44 44 rfl _ rfl) (by simp only [List.length_append, List.length_cons, List.length_nil]; omega) ?_; intro v2 x2 hO2 hg2; have hb2 := (hb1.alloc _).grow (hO1.ext ((Ext.refl _).alloc _ _)) hg2; have q2 := hb2.c1)
      refine (ai_call w x2 v2 _ un hO2 HG.out o3 o4 (by simp only [List.length_append, List.length_cons, List.length_nil]; omega)).mono ?_; rintro e x3 ⟨v3, rfl, hO3, hk3⟩
      have hb3 := hb2.others hk3
      clear q2
      go_wp2_with (at_builtin; refine appB rfl _ _ rfl w _ _ rfl (hO3.ext ((Ext.refl _).alloc _ _)) _ [44] rfl (rdB_lit x3 44 44 rfl _ rfl) (by simp only [List.length_append, List.length_cons, List.length_nil]; omega) ?_; intro v4 x4 hO4 hg4; have hb4 := (hb3.alloc _).grow (hO3.ext ((Ext.refl _).alloc _ _)) hg4; have q4 := hb4.c2)
      refine (ai_call w x4 v4 _ (us.length : Int) hO4 HG.out (by omega) (by omega) (by simp only [List.length_append, List.length_cons, List.length_nil]; omega)).mono ?_; rintro e x5 ⟨v5, rfl, hO5, hk5⟩
      have hb5 := hb4.others hk5
      clear q4
      go_wp2_with (first
        | (at_builtin; refine appB rfl _ _ rfl w _ _ rfl (hO5.ext ((Ext.refl _).alloc _ _)) _ [58] rfl (rdB_lit x5 58 58 rfl _ rfl) (by simp only [List.length_append, List.length_cons, List.length_nil]; omega) ?_; intro v6 x6 hO6 hg6; have hb6 := (hb5.alloc _).grow (hO5.ext ((Ext.refl _).alloc _ _)) hg6; have q6 := hb6.c2)
        | (at_builtin; refine appS rfl _ _ rfl w _ _ rfl hO6 us rfl (by simp only [List.length_append, List.length_cons, List.length_nil]; omega) ?_; intro v7 x7 hO7 hg7))
      go_roundw
      case rel => exact ⟨k + 1, hlt', by go_num, HS.out ▸ hO7⟩
      case measure => simp [intOf]; omega
    · have HR := Lib.hid (show keyL (l.take k) = keyL l by rw [List.take_of_length_le (by have := HN.out; omega)])
      have cv := hO.rd.text
      go_wp2_with fail
      go_ret
      exact ⟨ret_sv9 HR.out, hO.2⟩
end Go.Proofs.YtbplapkcleipiaaGreatDoor
/- Classes of rows in memory; a map from keys to numbers. -/
namespace Go.Proofs.YtbplapkcleipiaaGreatDoor
open Go.ChangeShapes Go.WideShapes Go.ChangeAt Go.RowKit
open Go.Maps (Keyed)

/- the map -/
theorem map_law : Keyed Tryz.prog 9 := Go.Maps.string_keyed Tryz.underlying9
theorem map_zero (w : World) : (zeroValue 3).run Tryz.prog w = .ok (.int .i64 0) w := by kernel_rfl
def litK (v : List V) : Lit := .string (keyL v)
theorem litK_inj {a b : List V} (h : litK a = litK b) : a = b := key_inj a b (by unfold litK at h; injection h)
theorem litK_key (v : List V) : WideAt.IsKeyLit (litK v) := trivial
theorem litK_of (v : List V) (h : (keyL v).length ≤ 70368744177664) : keyOf Tryz.prog 9 (sv (keyL v)) = some (litK v) := Go.WideMaps.keyOf_string_mk Tryz.underlying9 (by have : (⟨(keyL v).toArray⟩ : ByteArray).size = (keyL v).length := rfl; rw [this]; unfold maxLen; omega)
/-- block M is a map with these numbers at the keys of these values -/
def MapI (M : Nat) (f : List V → Option Int) (n : Nat) (w : World) : Prop := ∃ D : DataW Unit, w.ownsMap Tryz.prog 9 (plainElem Tryz.prog 3) M n D ∧ Maps.IsMap D ∧
  ∀ v, (f v = none → Maps.has D (litK v) = false) ∧ ∀ i, f v = some i → Maps.has D (litK v) = true ∧ ∀ z, D.atKey (litK v) z = .lit (.int .i64 i)
theorem MapI.made (w : World) : MapI w.heap.size (fun _ => none) 0 (w.alloc (.map #[] 0)) :=
  ⟨.map [], World.ownsMap_made _ _ _ _, ⟨[], rfl⟩, fun v => ⟨fun _ => rfl, fun i h => by cases h⟩⟩
theorem MapI.block {M n : Nat} {f : List V → Option Int} {w : World} (h : MapI M f n w) : ∃ es cl, w.heap[M]? = some (.map es cl) := by
  obtain ⟨D, ⟨es, cl, hb, _⟩, _⟩ := h
  exact ⟨es, cl, hb⟩
theorem MapI.grw {M n : Nat} {f : List V → Option Int} {w w' : World} {b : Option Nat} (h : MapI M f n w) (k : Grw w w' b) (hb : some M ≠ b) : MapI M f n w' := by
  obtain ⟨D, ⟨es, cl, h1, h2⟩, h3⟩ := h
  exact ⟨D, ⟨es, cl, by rw [k.block M (Array.getElem?_eq_some_iff.1 h1).1 hb]; exact h1, h2⟩, h3⟩
theorem MapI.ext {M n : Nat} {f : List V → Option Int} {w w' : World} (h : MapI M f n w) (e : Ext w w') : MapI M f n w' := h.grw (grw_ext e none) (by simp)
theorem MapI.put {M n : Nat} {f : List V → Option Int} {D : DataW Unit} {w' : World} (v : List V) (i : Int)
    (hm : Maps.IsMap D) (hf : ∀ v, (f v = none → Maps.has D (litK v) = false) ∧ ∀ i, f v = some i → Maps.has D (litK v) = true ∧ ∀ z, D.atKey (litK v) z = .lit (.int .i64 i))
    (hown : w'.ownsMap Tryz.prog 9 (plainElem Tryz.prog 3) M n (D.put (litK v) (.lit (.int .i64 i)))) : MapI M (fun u => if u = v then some i else f u) n w' := by
  refine ⟨_, hown, hm.put _ _, fun u => ?_⟩
  by_cases h : u = v
  · subst h
    simp only [if_pos]
    refine ⟨fun e => (by cases e), fun j hj => ?_⟩
    injection hj with hj; subst hj
    exact ⟨Maps.has_put_same hm (litK_key u) _, fun z => Maps.atKey_put_same hm (litK_key u) _ z⟩
  · simp only [if_neg h]
    have hne : litK u ≠ litK v := fun e => h (litK_inj e)
    refine ⟨fun e => ?_, fun j hj => ?_⟩
    · rw [Maps.has_put_other hne]; exact (hf u).1 e
    · obtain ⟨h1, h2⟩ := (hf u).2 j hj
      exact ⟨by rw [Maps.has_put_other hne]; exact h1, fun z => by rw [Maps.atKey_put_other hne]; exact h2 z⟩
/-- a key's text -/
theorem rdV_of {w : World} {v : Value} {l : List V} (h : RdG w v l) : RdV w v l := by
  obtain ⟨ad, cap, rfl, h1, h2, h3, h4⟩ := h
  refine ⟨ad, cap, rfl, h1, h2, h3, fun i hi => ?_⟩
  obtain ⟨g, o, e, c⟩ := h4 i hi
  exact ⟨g, o, e, c 0 _ rfl, c 1 _ rfl, c 2 _ rfl⟩
/-- values whose key is not too long, numbers within 64 bits -/
def KeyOk (l : List V) : Prop := (∀ v ∈ l, okN v.k ∧ okN v.n) ∧ (keyL l).length ≤ 70368744177664
theorem KeyOk.okL {l : List V} (h : KeyOk l) : OkL l := fun i hi => by
  obtain ⟨⟨a, b⟩, c, d⟩ := h.1 l[i] (List.getElem_mem _)
  exact ⟨a, b, c, d⟩
theorem key_call (l : List V) (v : Value) (w : World) (hG : PT w) (hr : RdG w v l) (hk : KeyOk l) : Calls Tryz.prog 101 #[v] w fun e w' => e = .returned (sv (keyL l)) ∧ Ext w w' := key_pt l v w hG (rdV_of hr) hk.okL hk.2

/- classes -/
structure ClP where
  h : Hd
  v : List V
  ps : List P
instance : Inhabited ClP := ⟨⟨⟨none, 0, 0, none, 0, 0⟩, [], []⟩⟩
instance : Enc ClP := ⟨2, by decide, fun p => [p.h.x, p.h.y], fun _ => rfl, fun a u h => by simp at h; rcases h with rfl | rfl <;> rfl⟩
def tCl : RowT ClP := ⟨163, 159, default, .agg #[.slice none 0 0, .slice none 0 0], 48, Tryz.underlying159, by kernel_rfl, by rfl, by decide⟩
def ClP.d (c : ClP) : Cl := (c.v, rows c.ps)
def Dis (u v : Value) : Prop := ∀ g, u.ownBlock = some g → v.ownBlock ≠ some g
theorem Dis.symm {u v : Value} (h : Dis u v) : Dis v u := fun g hg hu => h g hu hg
/-- a slice that lies in a block of cells -/
theorem rd_cells {α : Type} [Enc α] {w : World} {v : Value} {l : List α} (h : RdG w v l) (g : Nat) (hg : v.ownBlock = some g) (hl : lenOf v ≠ 0) : ∃ c e f, w.heap[g]? = some (.cells c e f) := by
  obtain ⟨ad, cap, rfl, h1, h2, h3, h4⟩ := h
  simp only [lenOf] at hl
  obtain ⟨g', o, rfl, c⟩ := h4 0 (by omega)
  injection hg with hg
  subst hg
  have hp := Enc.pos (α := α)
  have hz : 0 < (Enc.cells (l[0]'(by omega))).length := by rw [Enc.len]; exact hp
  have hc := c 0 _ (List.getElem?_eq_getElem hz)
  unfold World.cell? at hc
  split at hc
  · rename_i c e f hb; exact ⟨_, _, _, hb⟩
  · cases hc
theorem off_other {e1 e2 : TypeId} {W w w' : World} {u : Value} {b : Option Nat} (h1 : Off e1 W w u) (h2 : Off e2 W w u) (k : Grw w w' b) (hb : RowBlk e2 W w b) : Off e1 W w' u := fun g hg hl => by
  rcases h1 g hg hl with h | ⟨cur, e', fr, c1, c2⟩
  · exact .inl h
  · refine .inr ⟨cur, e', fr, ?_, c2⟩
    rw [k.block g (Array.getElem?_eq_some_iff.1 c1).1 (fun he => ?_)]
    · exact c1
    · obtain ⟨hW, c3, hc3⟩ := hb g he.symm
      rcases h2 g hg hl with h | ⟨cur2, e2', fr2, d1, d2⟩
      · omega
      · rw [d1] at hc3; injection hc3 with hc3; injection hc3 with _ hc3; exact d2 hc3
/-- the values of a class: read, lying off rows and classes; fr: the call's own -/
def VOk (fr : Bool) (S : Nat → Prop) (W w : World) (c : ClP) : Prop := RdI S w c.h.x c.v ∧ Off tP.e W w c.h.x ∧ Off tCl.e W w c.h.x ∧ (fr = true → OwnG tV.e W w c.h.x c.v)
structure ClsI (fr : Bool) (S : Nat → Prop) (W w : World) (vc : Value) (cps : List ClP) (ps0 : List P) : Prop where
  own : OwnG tCl.e W w vc cps
  rws : ∀ c ∈ cps, OwnG tP.e W w c.h.y c.ps ∧ ∀ p ∈ c.ps, p ∈ ps0
  val : ∀ c ∈ cps, VOk fr S W w c
  dis : cps.Pairwise fun c d => Dis c.h.y d.h.y ∧ (fr = true → Dis c.h.x d.h.x)
theorem VOk.ext {fr : Bool} {S : Nat → Prop} {W w w' : World} {c : ClP} (h : VOk fr S W w c) (e : Ext w w') : VOk fr S W w' c := ⟨rdI_ok.ext h.1 e, h.2.1.ext e, h.2.2.1.ext e, fun f => (h.2.2.2 f).ext e⟩
theorem ClsI.ext {fr : Bool} {S : Nat → Prop} {W w w' : World} {vc : Value} {cps : List ClP} {ps0 : List P} (h : ClsI fr S W w vc cps ps0) (e : Ext w w') : ClsI fr S W w' vc cps ps0 :=
  ⟨h.own.ext e, fun c hc => ⟨(h.rws c hc).1.ext e, (h.rws c hc).2⟩, fun c hc => (h.val c hc).ext e, h.dis⟩
theorem ClsI.nil (fr : Bool) (S : Nat → Prop) {W w : World} (h : Ext W w) (ps0 : List P) : ClsI fr S W w (.slice none 0 0) [] ps0 := ⟨OwnG.nil _ _ _ h, by simp, by simp, List.Pairwise.nil⟩
/-- another block is written that is no block of cells before: the map's -/
theorem ClsI.map {fr : Bool} {S : Nat → Prop} {W w w' : World} {vc : Value} {cps : List ClP} {ps0 : List P} (h : ClsI fr S W w vc cps ps0) {M : Nat} {es : Array MapEntry} {cl : Nat} (hM : w.heap[M]? = some (.map es cl)) (k : Grw w w' (some M)) (hW : W.heap.size ≤ M) : ClsI fr S W w' vc cps ps0 := by
  have ne : ∀ {α : Type} [Enc α] {e : TypeId} {v : Value} {l : List α}, OwnG e W w v l → v.ownBlock = none ∨ v.ownBlock ≠ some M := fun {α} _ {e} {v} {l} ho => by
    refine .inr fun he => ?_
    obtain ⟨_, c, hc⟩ := ho.blk M he
    rw [hM] at hc; cases hc
  have hb : ∀ g, some M = some g → W.heap.size ≤ g := fun g hg => by injection hg with hg; omega
  refine ⟨h.own.other k hb (ne h.own), fun c hc => ⟨(h.rws c hc).1.other k hb (ne (h.rws c hc).1), (h.rws c hc).2⟩, fun c hc => ?_, h.dis⟩
  obtain ⟨v1, v2, v3, v4⟩ := h.val c hc
  have hin : In (fun g => some g ≠ some M) c.h.x := fun g hg hl e => by
    injection e with e; subst e
    obtain ⟨cc, e', f, hcc⟩ := rd_cells v1.1 g hg hl
    rw [hM] at hcc; cases hcc
  have hoff : ∀ e, Off e W w c.h.x → Off e W w' c.h.x := fun e ho g hg hl => by
    rcases ho g hg hl with h | ⟨cur, e', fr, c1, c2⟩
    · exact .inl h
    · exact .inr ⟨cur, e', fr, by rw [k.block g (Array.getElem?_eq_some_iff.1 c1).1 (hin g hg hl)]; exact c1, c2⟩
  exact ⟨⟨v1.1.out k hin, v1.2⟩, hoff _ v2, hoff _ v3, fun f => (v4 f).other k hb (ne (v4 f))⟩
/-- one more class, without rows -/
theorem ClsI.new {fr : Bool} {S : Nat → Prop} {W w w' : World} {vc vc' : Value} {cps : List ClP} {ps0 : List P} (h : ClsI fr S W w vc cps ps0) {c : ClP} (hv : VOk fr S W w c) (hy : c.h.y = .slice none 0 0) (hp : c.ps = []) (hd : fr = true → ∀ d ∈ cps, Dis d.h.x c.h.x)
    (ho : OwnG tCl.e W w' vc' (cps ++ [c])) (hg : w.grownBy w' vc.ownBlock) : ClsI fr S W w' vc' (cps ++ [c]) ps0 := by
  have k := grw_by hg
  have hb : ∀ g, vc.ownBlock = some g → W.heap.size ≤ g := fun g hg => (h.own.blk g hg).1
  have vst : ∀ d, VOk fr S W w d → VOk fr S W w' d := fun d ⟨v1, v2, v3, v4⟩ =>
    ⟨⟨v1.1.grw v3 k h.own.blk, v1.2⟩, off_other v2 v3 k h.own.blk, v3.grw k h.own.blk, fun f => (v4 f).other k hb ((v4 f).apart h.own (by decide))⟩
  refine ⟨ho, fun d hd' => ?_, fun d hd' => ?_, ?_⟩
  · rcases List.mem_append.1 hd' with hd' | hd'
    · exact ⟨(h.rws d hd').1.other k hb ((h.rws d hd').1.apart h.own (by decide)), (h.rws d hd').2⟩
    · simp only [List.mem_singleton] at hd'; subst hd'
      rw [hy, hp]; exact ⟨OwnG.nil _ _ _ ho.2, by simp⟩
  · rcases List.mem_append.1 hd' with hd' | hd'
    · exact vst d (h.val d hd')
    · simp only [List.mem_singleton] at hd'; subst hd'; exact vst _ hv
  · refine List.pairwise_append.2 ⟨h.dis, by simp, fun a ha b hb' => ?_⟩
    simp only [List.mem_singleton] at hb'; subst hb'
    exact ⟨fun g _ e => (by rw [hy] at e; cases e), fun f => hd f a ha⟩
end Go.Proofs.YtbplapkcleipiaaGreatDoor
