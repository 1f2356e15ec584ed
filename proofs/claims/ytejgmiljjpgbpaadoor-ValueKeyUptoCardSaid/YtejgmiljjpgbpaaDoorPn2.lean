/- The program's unquote. -/
import Derived.Test.YtejgmiljjpgbpaaDoorPn1
import Derived.Test.YtejgmiljjpgbpaaDoorShB
import Derived.Deep.QuietTactic
import Derived.BigQuiet
namespace Go.Proofs.YtejgmiljjpgbpaaDoor
open Go.ChangeShapes Go.WideShapes Go.ChangeAt Go.RowKit

theorem hp_yes (l p : List UInt8) (w : World) (h : Lib.hasPrefix l p = true) : Calls Tryd.prog 58 #[sv l, sv p] w fun e w' => e = .returned (.bool true) ∧ w = w' :=
  (Tryd.strings_HasPrefix ⟨l.toArray⟩ ⟨p.toArray⟩ w).mono fun _ _ ⟨a, b⟩ => ⟨a.trans (ret_bool h), b.symm⟩
theorem hp_no (l p : List UInt8) (w : World) (h : Lib.hasPrefix l p = false) : Calls Tryd.prog 58 #[sv l, sv p] w fun e w' => e = .returned (.bool false) ∧ w = w' :=
  (Tryd.strings_HasPrefix ⟨l.toArray⟩ ⟨p.toArray⟩ w).mono fun _ _ ⟨a, b⟩ => ⟨a.trans (ret_bool h), b.symm⟩
theorem hs_yes (l p : List UInt8) (w : World) (hl : l.length ≤ 4000) (h : Lib.hasSuffix l p = true) : Calls Tryd.prog 59 #[sv l, sv p] w fun e w' => e = .returned (.bool true) ∧ w = w' :=
  (Tryd.strings_HasSuffix ⟨l.toArray⟩ ⟨p.toArray⟩ w (by simp [ByteArray.size]; omega)).mono fun _ _ ⟨a, b⟩ => ⟨a.trans (ret_bool h), b.symm⟩
theorem hs_no (l p : List UInt8) (w : World) (hl : l.length ≤ 4000) (h : Lib.hasSuffix l p = false) : Calls Tryd.prog 59 #[sv l, sv p] w fun e w' => e = .returned (.bool false) ∧ w = w' :=
  (Tryd.strings_HasSuffix ⟨l.toArray⟩ ⟨p.toArray⟩ w (by simp [ByteArray.size]; omega)).mono fun _ _ ⟨a, b⟩ => ⟨a.trans (ret_bool h), b.symm⟩
theorem ext_piece (l : List UInt8) (x y : Nat) : (⟨l.toArray⟩ : ByteArray).extract x y = ⟨((l.drop x).take (y - x)).toArray⟩ := by
  apply ByteArray.ext
  simp
theorem suf_iff (l : List UInt8) : Lib.hasSuffix l [39] = decide (l.getLast? = some 39) := by
  rw [Bool.eq_iff_iff, decide_eq_true_eq, Lib.hasSuffix, List.isSuffixOf_iff_suffix, List.getLast?_eq_some_iff]
  exact ⟨fun ⟨t, h⟩ => ⟨t, h.symm⟩, fun ⟨t, h⟩ => ⟨t, h.symm⟩⟩
theorem qin_none (l : List UInt8) (h : qin l = none) : l.length < 2 ∨ (2 ≤ l.length ∧ Lib.hasPrefix l [39] = false) ∨ (2 ≤ l.length ∧ Lib.hasPrefix l [39] = true ∧ Lib.hasSuffix l [39] = false) := by
  by_cases h2 : l.length < 2
  · exact Or.inl h2
  · right
    cases hp : Lib.hasPrefix l [39] with
    | false => exact Or.inl ⟨by omega, rfl⟩
    | true =>
      right
      refine ⟨by omega, rfl, ?_⟩
      rw [suf_iff, decide_eq_false_iff_not]
      intro hl
      cases l with
      | nil => simp at h2
      | cons c r =>
        have hc : c = 39 := by simp [Lib.hasPrefix] at hp; exact hp.symm
        cases r with
        | nil => simp at h2
        | cons d t =>
          rw [qin, if_pos ⟨hc, by rw [List.getLast?_cons_cons] at hl; exact hl⟩] at h
          cases h
theorem qin_some (l i : List UInt8) (h : qin l = some i) : 2 ≤ l.length ∧ Lib.hasPrefix l [39] = true ∧ Lib.hasSuffix l [39] = true ∧ l.length = i.length + 2 ∧ ({ data := l.toArray } : ByteArray).extract 1 (l.length - 1) = ⟨i.toArray⟩ := by
  have e := of_qin l i h
  subst e
  refine ⟨by simp, by simp [Lib.hasPrefix], ?_, by simp, ?_⟩
  · rw [suf_iff, show 39 :: (i ++ [39]) = (39 :: i) ++ [39] from rfl, List.getLast?_concat]; rfl
  · rw [ext_piece]; simp
def UnqT (r : Option (List UInt8)) (w : World) (e : Ending) (w' : World) : Prop :=
  e = .returned (.tuple #[sv (r.getD []), .bool r.isSome]) ∧ Ext w w'
theorem unq_at0 (inn : List UInt8) : unq inn = (unq (inn.drop 0)).map ([] ++ ·) := by
  rw [List.drop_zero]; cases unq inn <;> rfl
theorem unq_step (inn s : List UInt8) (k : Nat) (h : k < inn.length) (hq : inn[k] ≠ 39) (hs : unq inn = (unq (inn.drop k)).map (s ++ ·)) : unq inn = (unq (inn.drop (k + 1))).map (s ++ [inn[k]] ++ ·) := by
  rw [hs, List.drop_eq_getElem_cons h, unq_ne _ _ hq, Option.map_map]; congr 1; funext x; simp
theorem unq_step2 (inn s : List UInt8) (k : Nat) (h : k + 1 < inn.length) (hq : inn[k]'(by omega) = 39) (hq2 : inn[k + 1] = 39) (hs : unq inn = (unq (inn.drop k)).map (s ++ ·)) : unq inn = (unq (inn.drop (k + 1 + 1))).map (s ++ [inn[k + 1]] ++ ·) := by
  rw [hs, List.drop_eq_getElem_cons (show k < inn.length by omega), List.drop_eq_getElem_cons h, hq, hq2, unq_two, Option.map_map]; congr 1; funext x; simp
theorem unq_stop (inn s : List UInt8) (k : Nat) (h : k < inn.length) (hq : inn[k] = 39) (hp : Lib.hasPrefix (inn.drop k) [39, 39] = false) (hs : unq inn = (unq (inn.drop k)).map (s ++ ·)) : unq inn = none := by
  rw [hs]
  rw [List.drop_eq_getElem_cons h, hq] at hp ⊢
  cases hd : inn.drop (k + 1) with
  | nil => rw [unq_one]; rfl
  | cons d r =>
    rw [hd] at hp
    have : d ≠ 39 := by intro e; subst e; simp [Lib.hasPrefix] at hp
    rw [unq_bad d r this]; rfl
theorem pre_ne (inn : List UInt8) (k : Nat) (h : k < inn.length) (hq : inn[k] ≠ 39) : Lib.hasPrefix (inn.drop k) [39, 39] = false := by
  rw [List.drop_eq_getElem_cons h]; generalize inn.drop (k + 1) = t; simp only [Lib.hasPrefix, List.isPrefixOf]; rw [show ((39 : UInt8) == inn[k]) = false from beq_eq_false_iff_ne.2 (Ne.symm hq)]; rfl
theorem pre_two (inn : List UInt8) (k : Nat) (h : k < inn.length) (hp : Lib.hasPrefix (inn.drop k) [39, 39] = true) : ∃ h2 : k + 1 < inn.length, inn[k] = 39 ∧ inn[k + 1] = 39 := by
  have h2 : k + 1 < inn.length := by
    have := List.IsPrefix.length_le (List.isPrefixOf_iff_prefix.1 hp)
    simp at this; omega
  refine ⟨h2, ?_⟩
  rw [List.drop_eq_getElem_cons h, List.drop_eq_getElem_cons h2] at hp
  generalize inn.drop (k + 1 + 1) = t at hp
  simp only [Lib.hasPrefix, List.isPrefixOf, Bool.and_eq_true, beq_iff_eq, and_true] at hp
  exact ⟨hp.1.symm, hp.2.symm⟩
theorem bld_new (w : World) : Lib.IsBuilderF 71 5 w.heap.size w.heap.size (Lib.byteCells []) (w.alloc (.cells #[.pointer none, .slice none 0 0] 71)) :=
  Or.inl ⟨Nat.le_refl _, .slice none 0 0, (MapKept.heap_alloc w _).1, World.ownsRowF_of (World.ownsRow_nil _ _ _ _), by simp [Value.ownBlock]⟩
def UnR (w : World) (inn : List UInt8) (i : Value) (wr : World) : Prop := ∃ (k : Nat) (s : List UInt8), k ≤ inn.length ∧ s.length ≤ k ∧ i = .int .i64 k ∧ Hid (unq inn = (unq (inn.drop k)).map (s ++ ·)) ∧ Lib.IsBuilderF 71 5 w.heap.size w.heap.size (Lib.byteCells s) wr ∧ Ext w wr ∧ w.heap.size < wr.heap.size
set_option maxHeartbeats 1000000 in
theorem unq_none (l : List UInt8) (w : World) (hl : l.length ≤ 4000) (h : qin l = none) : Calls Tryd.prog 42 #[sv l] w (UnqT none w) := by
  rcases qin_none l h with h1 | ⟨h1, h2⟩ | ⟨h1, h2, h3⟩
  · clear h
    go_enter Tryd.func42, Tryd.ntmps42
    go_wp2_with fail
    go_ret2
    exact ⟨rfl, Ext.refl _⟩
  · have H := Lib.hid h2
    clear h h2
    go_enter Tryd.func42, Tryd.ntmps42
    go_wp2_with fail
    refine (hp_no l [39] _ H.out).mono ?_; rintro e w1 ⟨rfl, rfl⟩
    go_wp2_with fail
    go_ret2
    exact ⟨rfl, Ext.refl _⟩
  · have H := Lib.hid h2
    have H2 := Lib.hid h3
    clear h h2 h3
    go_enter Tryd.func42, Tryd.ntmps42
    go_wp2_with fail
    refine (hp_yes l [39] _ H.out).mono ?_; rintro e w1 ⟨rfl, rfl⟩
    go_wp2_with fail
    refine (hs_no l [39] _ hl H2.out).mono ?_; rintro e w1 ⟨rfl, rfl⟩
    go_wp2_with fail
    go_ret2
    exact ⟨rfl, Ext.refl _⟩
set_option maxHeartbeats 2000000 in
set_option maxRecDepth 100000 in
theorem unq_some (l inn : List UInt8) (w : World) (hl : l.length ≤ 4000) (h : qin l = some inn) : Calls Tryd.prog 42 #[sv l] w (UnqT (unq inn) w) := by
  obtain ⟨h1, h2, h3, h4, h5⟩ := qin_some l inn h
  have H2 := Lib.hid h2
  have H3 := Lib.hid h3
  have sl : ∀ w : World, (Instr.slice 9 (sv l) (some (.int .i64 1)) (some (.int .i64 ((l.length : Int) - 1))) none).run Tryd.prog w = .ok (sv inn) w := fun w => by
    have hsz : (⟨l.toArray⟩ : ByteArray).size = l.length := by simp [ByteArray.size]
    have := run_slice_string (P := Tryd.prog) (w := w) 9 ⟨l.toArray⟩ .i64 .i64 1 ((l.length : Int) - 1) Tryd.underlying9 (by omega) (by omega) (by rw [hsz]; omega)
    rw [this]
    rw [show ((l.length : Int) - 1).toNat = l.length - 1 by omega]
    rw [show (1 : Int).toNat = 1 from rfl, h5]
  have hi : inn.length ≤ 4000 := by omega
  have hd2 : decide ((l.length : Int) < 2) = false := by simp; omega
  clear h h2 h3 h4 h5
  go_enter Tryd.func42, Tryd.ntmps42
  go_wp2_with fail
  refine (hp_yes l [39] _ H2.out).mono ?_; rintro e w1 ⟨rfl, rfl⟩
  go_wp2_with fail
  refine (hs_yes l [39] _ hl H3.out).mono ?_; rintro e w1 ⟨rfl, rfl⟩
  go_wp2_with fail
  clear sl hd2
  go_loopw [6] (UnR w inn) (fun i _ => inn.length - (intOf i).toNat)
  case atStart => exact ⟨0, [], Nat.zero_le _, Nat.le_refl _, rfl, Lib.hid (unq_at0 inn), bld_new w, (Ext.refl _).alloc _ _, by simp⟩
  case round =>
    obtain ⟨k, s, hk, hsk, rfl, HU, hB, hE, hz⟩ := hrel
    have hbl : (Lib.byteCells s).length + 1 ≤ 140737488355328 := by rw [bc_len]; omega
    by_cases hlt : k < inn.length
    · have sl2 : ∀ w : World, (Instr.slice 9 (sv inn) (some (.int .i64 (k : Int))) none none).run Tryd.prog w = .ok (sv (inn.drop k)) w := fun w => by
        have hsz : (⟨inn.toArray⟩ : ByteArray).size = inn.length := by simp [ByteArray.size]
        have := run_slice_string_l (P := Tryd.prog) (w := w) (t := 9) (s := ⟨inn.toArray⟩) (ht := Tryd.underlying9) .i64 (k : Int) (by omega) (by rw [hsz]; omega)
        rw [this, hsz, Int.toNat_natCast, ext_piece, List.take_of_length_le (by simp)]
      cases hp : Lib.hasPrefix (inn.drop k) [39, 39]
      · by_cases hq : inn[k] = 39
        · have HN := Lib.hid (unq_stop inn s k hlt hq hp HU.out)
          have HP := Lib.hid hp
          have hn : (((({ data := inn.toArray } : ByteArray)[k]'(by simpa [ByteArray.size] using hlt)).toNat : Int) == ((({ data := #[39] } : ByteArray)[0]'(by decide)).toNat : Int)) = true := by
            show ((inn[k].toNat : Int) == 39) = true
            rw [hq]; rfl
          rw [HN.out]
          clear hp hq
          go_wp2_with fail
          refine (hp_no (inn.drop k) [39, 39] _ HP.out).mono ?_; rintro e w1 ⟨rfl, rfl⟩
          go_wp2_with fail
          go_quiet (fail)
          go_wp2_with fail
          go_ret2
          exact ⟨rfl, hE⟩
        · have HS := Lib.hid (unq_step inn s k hlt hq HU.out)
          have HP := Lib.hid hp
          have hn : (((({ data := inn.toArray } : ByteArray)[k]'(by simpa [ByteArray.size] using hlt)).toNat : Int) == ((({ data := #[39] } : ByteArray)[0]'(by decide)).toNat : Int)) = false := by
            show ((inn[k].toNat : Int) == 39) = false
            rw [beq_eq_false_iff_ne]; intro e; exact hq (UInt8.toNat_inj.1 (show inn[k].toNat = 39 by omega))
          clear hp hq
          go_wp2_with fail
          refine (hp_no (inn.drop k) [39, 39] _ HP.out).mono ?_; rintro e w1 ⟨rfl, rfl⟩
          go_wp2_with fail
          go_quiet (fail)
          go_wp2_with fail
          have hB' : Lib.IsBuilderF 71 5 w.heap.size w.heap.size (Lib.byteCells s) (wr.drewN nq) := hB
          refine (Tryd.Builder_WriteByte_h w.heap.size w.heap.size (Lib.byteCells s) _ _ hB' hbl (by show w.heap.size ≤ wr.heap.size; omega)).mono ?_; rintro e w2 ⟨rfl, hb2, hb3, _⟩
          have hE3 : Ext w w2 := ext_below hE ⟨hb3.os, hb3.tape, hb3.output, hb3.size, hb3.block⟩
          have hz3 : wr.heap.size ≤ w2.heap.size := hb3.size
          clear hb3
          go_wp2_with fail
          go_roundw
          case rel => exact ⟨k + 1, s ++ [inn[k]], by omega, by simp; omega, by go_num, HS, Or.inr (by rw [bc_app]; exact hb2), hE3, Nat.lt_of_lt_of_le hz hz3⟩
          case measure => simp [intOf]; omega
      · obtain ⟨h2, q1, q2⟩ := pre_two inn k hlt hp
        have HS := Lib.hid (unq_step2 inn s k h2 q1 q2 HU.out)
        have HP := Lib.hid hp
        clear hp q1 q2
        go_wp2_with fail
        refine (hp_yes (inn.drop k) [39, 39] _ HP.out).mono ?_; rintro e w1 ⟨rfl, rfl⟩
        go_wp2_with fail
        refine (Tryd.Builder_WriteByte_h w.heap.size w.heap.size (Lib.byteCells s) _ wr hB hbl (by omega)).mono ?_; rintro e w2 ⟨rfl, hb2, hb3, _⟩
        go_wp2_with fail
        go_roundw
        case rel => exact ⟨k + 1 + 1, s ++ [inn[k + 1]], by omega, by simp; omega, by go_num, HS, Or.inr (by rw [bc_app]; exact hb2), ext_below hE hb3, Nat.lt_of_lt_of_le hz hb3.size⟩
        case measure => simp [intOf]; omega
    · have HR := Lib.hid (show unq inn = some s by rw [HU.out, List.drop_of_length_le (by omega)]; simp [unq])
      rw [HR.out]
      go_wp2_with fail
      refine (Tryd.Builder_String_any_k w.heap.size w.heap.size s wr hB (by omega)).mono ?_; rintro e w2 ⟨rfl, _, hb3, _⟩
      go_wp2_with fail
      go_ret2
      refine ⟨?_, ext_below hE hb3⟩
      rw [HR.out]
      rfl
end Go.Proofs.YtejgmiljjpgbpaaDoor
