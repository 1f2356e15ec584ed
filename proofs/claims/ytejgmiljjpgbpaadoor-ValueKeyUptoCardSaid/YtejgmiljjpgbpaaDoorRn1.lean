/- The reference's number. (generated: tools/gennum6.py) -/
import Derived.Test.YtejgmiljjpgbpaaDoorPn2
namespace Go.Proofs.YtejgmiljjpgbpaaDoor
open Go.ChangeShapes Go.WideShapes Go.ChangeAt Go.RowKit

def NumI (d : List UInt8) (k x : Nat) (f : Bool) : Prop := digs (d.take k) = true ∧ x ≤ 9223372036854775809 ∧ (f = true → x = dvalA 0 (d.take k)) ∧ (f = false → 922337203685477580 < x ∧ 9223372036854775808 < dvalA 0 (d.take k))
theorem NumI.start (d : List UInt8) : NumI d 0 0 true := ⟨rfl, by omega, fun _ => rfl, fun h => by cases h⟩
theorem NumI.step1 {d : List UInt8} {k x : Nat} {f : Bool} (h : NumI d k x f) (hk : k < d.length) (hc : isDig d[k] = true) (hx : x ≤ 922337203685477580) : NumI d (k + 1) (x * 10 + (d[k].toNat - 48)) f := by
  obtain ⟨h1, h2, h3, h4⟩ := h
  have hb := (isDig_iff _).1 hc
  cases f with
  | false => have := (h4 rfl).1; omega
  | true =>
    refine ⟨digs_take d k hk h1 hc, by omega, fun _ => ?_, (fun h => by cases h)⟩
    rw [List.take_succ_eq_append_getElem hk, dvalA_snoc, ← h3 rfl]
theorem NumI.step2 {d : List UInt8} {k x : Nat} {f : Bool} (h : NumI d k x f) (hk : k < d.length) (hc : isDig d[k] = true) (hx : 922337203685477580 < x) : NumI d (k + 1) x false := by
  obtain ⟨h1, h2, h3, h4⟩ := h
  refine ⟨digs_take d k hk h1 hc, h2, (fun h => by cases h), fun _ => ⟨hx, ?_⟩⟩
  rw [List.take_succ_eq_append_getElem hk, dvalA_snoc]
  cases f with
  | false => have := (h4 rfl).2; omega
  | true => have := h3 rfl; omega
theorem NumI.done {d : List UInt8} {k x : Nat} {f : Bool} (h : NumI d k x f) (hk : d.length ≤ k) : digs d = true ∧ (f = true → x = dvalA 0 d) ∧ (f = false → 9223372036854775808 < dvalA 0 d) := by
  obtain ⟨h1, _, h3, h4⟩ := h
  rw [List.take_of_length_le hk] at h1 h3 h4
  exact ⟨h1, h3, fun e => (h4 e).2⟩
def NumR (d : List UInt8) (u f i : Value) : Prop := ∃ (k x : Nat) (b : Bool), k ≤ d.length ∧ u = .int .u64 (x : Nat) ∧ f = .bool b ∧ i = .int .i64 (k : Nat) ∧ Hid (NumI d k x b)
/-- what the reference's number returns -/
def NumE (l : List UInt8) : Ending := .returned (.tuple #[.int .i64 (if numF l = true then (numV l).getD 0 else 0), .bool (numF l && (numV l).isSome), .bool (numF l)])
theorem numE_no (l : List UInt8) (h : numF l = false) : Ending.returned (.tuple #[.int .i64 0, .bool false, .bool false]) = NumE l := by unfold NumE; rw [h]; rfl
theorem numE_bad (neg : Bool) (d : List UInt8) (hd : digs d = true) (hn : d ≠ []) (h : canon neg d = false) : Ending.returned (.tuple #[.int .i64 0, .bool false, .bool true]) = NumE (numS neg d) := by
  unfold NumE; rw [numF_of neg d hd hn, numV_num neg d hd, h]; rfl
theorem numE_ok (neg : Bool) (d : List UInt8) (hd : digs d = true) (hn : d ≠ []) (h : canon neg d = true) (z : Int) (hz : z = sgn neg (dvalA 0 d)) : Ending.returned (.tuple #[.int .i64 z, .bool true, .bool true]) = NumE (numS neg d) := by
  unfold NumE; rw [numF_of neg d hd hn, numV_num neg d hd, h, hz]; rfl
theorem numF_bad (neg : Bool) (d : List UInt8) (k : Nat) (hk : k < d.length) (hc : isDig d[k] = false) (hp : Lib.trimPrefix (numS neg d) [45] = d) : numF (numS neg d) = false := by
  unfold numF; rw [hp, digs_bad d k hk hc]; rfl
theorem head0 (d : List UInt8) (h : 0 < d.length) : d.head? = some d[0] := by
  cases d with
  | nil => simp at h
  | cons c r => rfl
theorem canon_of (neg : Bool) (d : List UInt8) (h1 : ¬ (1 < d.length ∧ d.head? = some 48)) (h2 : ¬ (neg = true ∧ d = [48])) (h3 : dvalA 0 d ≤ 9223372036854775808) (h4 : ¬ (dvalA 0 d = 9223372036854775808 ∧ neg = false)) : canon neg d = true := by
  unfold canon; rw [decide_eq_true_eq]; rintro (h | h | h | h)
  · exact h1 h
  · exact h2 h
  · omega
  · exact h4 h
theorem canon_not (neg : Bool) (d : List UInt8) (h : (1 < d.length ∧ d.head? = some 48) ∨ (neg = true ∧ d = [48]) ∨ 9223372036854775808 < dvalA 0 d ∨ (dvalA 0 d = 9223372036854775808 ∧ neg = false)) : canon neg d = false := by
  unfold canon; rw [decide_eq_false_iff_not]; exact fun e => e h
theorem canon_pos (d : List UInt8) (hd : digs d = true) (hn : d ≠ []) (h : canon true d = true) : 0 < dvalA 0 d := by
  unfold canon at h
  rw [decide_eq_true_eq] at h
  refine dval_pos d hd hn fun e => ?_
  by_cases h1 : 1 < d.length
  · exact h (Or.inl ⟨h1, e⟩)
  · have hl : d.length = 1 := by have := List.length_pos_iff.2 hn; omega
    obtain ⟨c, rfl⟩ := List.length_eq_one_iff.1 hl
    simp at e
    subst e
    exact h (Or.inr (Or.inl ⟨rfl, rfl⟩))
set_option maxHeartbeats 4000000 in
set_option maxRecDepth 100000 in
theorem num_neg (d : List UInt8) (w : World) (hl : d.length ≤ 4000) : Calls Tryd.prog 33 #[sv (45 :: d)] w fun e w' => e = NumE (45 :: d) ∧ w = w' := by
  have HT := Lib.hid (trim_neg d)
  have sl : ∀ w : World, (Instr.slice 9 (sv (45 :: d)) (some (.int .i64 1)) none none).run Tryd.prog w = .ok (sv d) w := fun w => by
    have hsz : (⟨(45 :: d).toArray⟩ : ByteArray).size = d.length + 1 := by simp [ByteArray.size]
    have := run_slice_string_l (P := Tryd.prog) (w := w) (t := 9) (s := ⟨(45 :: d).toArray⟩) (ht := Tryd.underlying9) .i64 1 (by omega) (by rw [hsz]; omega)
    rw [this, hsz, show (1 : Int).toNat = 1 from rfl, ext_piece]; simp
  have hi0 : ∀ h, (({ data := (45 :: d).toArray } : ByteArray)[0]'h) = 45 := fun _ => rfl
  by_cases hne : d = []
  · have HR := Lib.hid (numE_no (45 :: d) (by unfold numF; rw [HT.out, hne]; rfl))
    subst hne
    go_enter Tryd.func33, Tryd.ntmps33
    go_wp2_with fail
    go_ret3
    exact ⟨HR.out, rfl⟩
  have hpos : 0 < d.length := List.length_pos_iff.2 hne
  have hemp : d.isEmpty = false := by simpa using hne
  go_enter Tryd.func33, Tryd.ntmps33
  go_wp2_with fail
  clear sl hemp hi0
  go_loop [7, 8, 9] (NumR d) (fun _ _ i => d.length - (intOf i).toNat)
  case atStart => exact ⟨0, 0, true, Nat.zero_le _, rfl, rfl, rfl, Lib.hid (NumI.start d)⟩
  case round =>
    obtain ⟨k, x, b, hk, rfl, rfl, rfl, HI⟩ := hrel
    have hx : (x : Int) ≤ 9223372036854775809 := by have := HI.out.2.1; omega
    by_cases hlt : k < d.length
    · have hix : (({ data := d.toArray } : ByteArray)[k]'(by simpa [ByteArray.size] using hlt)) = d[k] := rfl
      cases hc : isDig d[k]
      · have HR := Lib.hid (numE_no (45 :: d) (numF_bad true d k hlt hc HT.out))
        have hb : ¬ (48 ≤ d[k].toNat ∧ d[k].toNat ≤ 57) := fun e => by rw [(isDig_iff _).2 e] at hc; cases hc
        rw [← hix] at hb
        clear hc hix
        rcases Nat.lt_or_ge (({ data := d.toArray } : ByteArray)[k]'(by simpa [ByteArray.size] using hlt)).toNat 48 with h | h
        · clear hb
          go_wp2_with fail
          go_ret3
          exact ⟨HR.out, rfl⟩
        · have h' : 57 < (({ data := d.toArray } : ByteArray)[k]'(by simpa [ByteArray.size] using hlt)).toNat := by omega
          clear hb
          go_wp2_with fail
          go_ret3
          exact ⟨HR.out, rfl⟩
      · have hb := (isDig_iff _).1 hc
        rw [← hix] at hb
        obtain ⟨b1, b2⟩ := hb
        by_cases h9 : (x : Int) ≤ 922337203685477580
        · have HS := Lib.hid (HI.out.step1 hlt hc (by omega))
          clear hc hix
          go_wp2_with fail
          go_round
          case rel => exact ⟨k + 1, _, b, by omega, congrArg (Value.int .u64) (by show _ = ((x * 10 + (d[k].toNat - 48) : Nat) : Int); have e : (({ data := d.toArray } : ByteArray)[k]'(by simpa [ByteArray.size] using hlt)).toNat = d[k].toNat := rfl; omega), rfl, by go_num, HS⟩
          case measure => simp [intOf]; omega
        · have HS := Lib.hid (HI.out.step2 hlt hc (by omega))
          have h9' : (922337203685477580 : Int) < (x : Int) := by omega
          clear hc hix h9
          go_wp2_with fail
          go_round
          case rel => exact ⟨k + 1, x, false, by omega, rfl, rfl, by go_num, HS⟩
          case measure => simp [intOf]; omega
    · obtain ⟨hd, hT, hF⟩ := HI.out.done (by omega)
      have hix0 : (({ data := d.toArray } : ByteArray)[0]'(by simpa [ByteArray.size] using hpos)) = d[0] := rfl
      have hh := head0 d hpos
      by_cases a1 : 1 < d.length ∧ d[0] = 48
      · have HR := Lib.hid (numE_bad true d hd hne (canon_not _ _ (Or.inl ⟨a1.1, by rw [hh, a1.2]⟩)))
        have hn : (((({ data := d.toArray } : ByteArray)[0]'(by simpa [ByteArray.size] using hpos)).toNat : Int) == 48) = true := by rw [hix0, a1.2]; rfl
        have a2 := a1.1
        clear hd hT hF hix0 hh a1
        go_wp2_with fail
        go_ret3
        exact ⟨HR.out, rfl⟩
      · have hA : ¬ (1 < d.length ∧ d.head? = some 48) := fun e => a1 ⟨e.1, by have := e.2; rw [hh] at this; injection this⟩
        by_cases a3 : d = [48]
        · have HR := Lib.hid (numE_bad true d hd hne (canon_not _ _ (Or.inr (Or.inl ⟨rfl, a3⟩))))
          have q1 : (d == [48]) = true := by simpa using a3
          have q2 : d.length ≤ 1 := by rw [a3]; simp
          clear hd hT hF hix0 hh a1 hA a3
          go_wp2_with fail
          go_ret3
          exact ⟨HR.out, rfl⟩
        have q1 : (d == [48]) = false := by simpa using a3
        have main : (1 < d.length ∧ (((({ data := d.toArray } : ByteArray)[0]'(by simpa [ByteArray.size] using hpos)).toNat : Int) == 48) = false) ∨ d.length ≤ 1 := by
          by_cases e : 1 < d.length
          · refine Or.inl ⟨e, ?_⟩
            rw [hix0, beq_eq_false_iff_ne]; intro e2; exact a1 ⟨e, UInt8.toNat_inj.1 (show d[0].toNat = 48 by omega)⟩
          · exact Or.inr (by omega)
        clear hh hix0 a1
        cases b with
        | false =>
          have HR := Lib.hid (numE_bad true d hd hne (canon_not _ _ (Or.inr (Or.inr (Or.inl (hF rfl))))))
          clear hd hT hF hA a3
          rcases main with ⟨m1, m2⟩ | m1
          all_goals
            go_wp2_with fail
            go_ret3
            exact ⟨HR.out, rfl⟩
        | true =>
          have HT2 := Lib.hid (hT rfl)
          have HD := Lib.hid hd
          have HA := Lib.hid hA
          have HB := Lib.hid a3
          clear hT hF hd hA a3
          rcases Int.lt_trichotomy (x : Int) 9223372036854775808 with hx1 | hx1 | hx1
          · have hcan := canon_of true d HA.out (fun e => HB.out e.2) (by have := HT2.out; omega) (by have := HT2.out; omega)
            have hx0 : 0 < x := by have := canon_pos d HD.out hne hcan; have := HT2.out; omega
            have e1 : IntKind.u64.wrap (-(x : Int)) = 18446744073709551616 - (x : Int) := by unfold IntKind.wrap; simp [IntKind.signed, IntKind.bits]; omega
            have e2 : wrap64 (18446744073709551616 - (x : Int)) = -(x : Int) := by unfold wrap64; omega
            have g1 : decide ((9223372036854775808 : Int) < (x : Int)) = false := by rw [decide_eq_false_iff_not]; omega
            have g2 : ((x : Int) == 9223372036854775808) = false := by rw [beq_eq_false_iff_ne]; omega
            have HR := Lib.hid (numE_ok true d HD.out hne hcan (-(x : Int)) (by unfold sgn; rw [← HT2.out]; rfl))
            clear hcan hx1 hx
            rcases main with ⟨m1, m2⟩ | m1
            all_goals
              go_wp2_with fail
              go_ret3
              exact ⟨HR.out, rfl⟩
          · have hxe : x = 9223372036854775808 := by omega
            have HX := Lib.hid hxe
            have hcan := canon_of true d HA.out (fun e => HB.out e.2) (by have := HT2.out; omega) (fun e => by cases e.2)
            have HR := Lib.hid (numE_ok true d HD.out hne hcan (-9223372036854775808) (by unfold sgn; rw [← HT2.out, hxe]; rfl))
            have e3 : wrap64 (IntKind.u64.wrap (-9223372036854775808)) = -9223372036854775808 := by decide +kernel
            clear hcan hxe hx1
            rw [HX.out]
            clear hx
            rcases main with ⟨m1, m2⟩ | m1
            all_goals
              go_wp2_with fail
              go_ret3
              exact ⟨HR.out, rfl⟩
          · have HR := Lib.hid (numE_bad true d HD.out hne (canon_not _ _ (Or.inr (Or.inr (Or.inl (by have := HT2.out; omega))))))
            rcases main with ⟨m1, m2⟩ | m1
            all_goals
              go_wp2_with fail
              go_ret3
              exact ⟨HR.out, rfl⟩
set_option maxHeartbeats 4000000 in
set_option maxRecDepth 100000 in
theorem num_pos (d : List UInt8) (w : World) (hl : d.length ≤ 4000) (hh : (d.head? == some 45) = false) : Calls Tryd.prog 33 #[sv d] w fun e w' => e = NumE d ∧ w = w' := by
  have HT := Lib.hid (show Lib.trimPrefix d [45] = d by
    unfold Lib.trimPrefix
    rw [if_neg]
    cases d with
    | nil => simp [Lib.hasPrefix]
    | cons c r => simp at hh; simp [Lib.hasPrefix, Ne.symm hh])
  by_cases hne : d = []
  · have HR := Lib.hid (numE_no d (by unfold numF; rw [HT.out, hne]; rfl))
    subst hne
    go_enter Tryd.func33, Tryd.ntmps33
    go_wp2_with fail
    go_ret3
    exact ⟨HR.out, rfl⟩
  have hpos : 0 < d.length := List.length_pos_iff.2 hne
  have hemp : d.isEmpty = false := by simpa using hne
  have hn0 : (((({ data := d.toArray } : ByteArray)[0]'(by simpa [ByteArray.size] using hpos)).toNat : Int) == 45) = false := by
    show ((d[0].toNat : Int) == 45) = false
    rw [head0 d hpos] at hh
    rw [beq_eq_false_iff_ne]; intro e
    have : d[0] = 45 := UInt8.toNat_inj.1 (show d[0].toNat = 45 by omega)
    rw [this] at hh
    simp at hh
  clear hh
  go_enter Tryd.func33, Tryd.ntmps33
  go_wp2_with fail
  clear hn0 hemp
  go_loop [7, 8, 9] (NumR d) (fun _ _ i => d.length - (intOf i).toNat)
  case atStart => exact ⟨0, 0, true, Nat.zero_le _, rfl, rfl, rfl, Lib.hid (NumI.start d)⟩
  case round =>
    obtain ⟨k, x, b, hk, rfl, rfl, rfl, HI⟩ := hrel
    have hx : (x : Int) ≤ 9223372036854775809 := by have := HI.out.2.1; omega
    by_cases hlt : k < d.length
    · have hix : (({ data := d.toArray } : ByteArray)[k]'(by simpa [ByteArray.size] using hlt)) = d[k] := rfl
      cases hc : isDig d[k]
      · have HR := Lib.hid (numE_no d (numF_bad false d k hlt hc HT.out))
        have hb : ¬ (48 ≤ d[k].toNat ∧ d[k].toNat ≤ 57) := fun e => by rw [(isDig_iff _).2 e] at hc; cases hc
        rw [← hix] at hb
        clear hc hix
        rcases Nat.lt_or_ge (({ data := d.toArray } : ByteArray)[k]'(by simpa [ByteArray.size] using hlt)).toNat 48 with h | h
        · clear hb
          go_wp2_with fail
          go_ret3
          exact ⟨HR.out, rfl⟩
        · have h' : 57 < (({ data := d.toArray } : ByteArray)[k]'(by simpa [ByteArray.size] using hlt)).toNat := by omega
          clear hb
          go_wp2_with fail
          go_ret3
          exact ⟨HR.out, rfl⟩
      · have hb := (isDig_iff _).1 hc
        rw [← hix] at hb
        obtain ⟨b1, b2⟩ := hb
        by_cases h9 : (x : Int) ≤ 922337203685477580
        · have HS := Lib.hid (HI.out.step1 hlt hc (by omega))
          clear hc hix
          go_wp2_with fail
          go_round
          case rel => exact ⟨k + 1, _, b, by omega, congrArg (Value.int .u64) (by show _ = ((x * 10 + (d[k].toNat - 48) : Nat) : Int); have e : (({ data := d.toArray } : ByteArray)[k]'(by simpa [ByteArray.size] using hlt)).toNat = d[k].toNat := rfl; omega), rfl, by go_num, HS⟩
          case measure => simp [intOf]; omega
        · have HS := Lib.hid (HI.out.step2 hlt hc (by omega))
          have h9' : (922337203685477580 : Int) < (x : Int) := by omega
          clear hc hix h9
          go_wp2_with fail
          go_round
          case rel => exact ⟨k + 1, x, false, by omega, rfl, rfl, by go_num, HS⟩
          case measure => simp [intOf]; omega
    · obtain ⟨hd, hT, hF⟩ := HI.out.done (by omega)
      have hix0 : (({ data := d.toArray } : ByteArray)[0]'(by simpa [ByteArray.size] using hpos)) = d[0] := rfl
      have hh := head0 d hpos
      by_cases a1 : 1 < d.length ∧ d[0] = 48
      · have HR := Lib.hid (numE_bad false d hd hne (canon_not _ _ (Or.inl ⟨a1.1, by rw [hh, a1.2]⟩)))
        have hn : (((({ data := d.toArray } : ByteArray)[0]'(by simpa [ByteArray.size] using hpos)).toNat : Int) == 48) = true := by rw [hix0, a1.2]; rfl
        have a2 := a1.1
        clear hd hT hF hix0 hh a1
        go_wp2_with fail
        go_ret3
        exact ⟨HR.out, rfl⟩
      · have hA : ¬ (1 < d.length ∧ d.head? = some 48) := fun e => a1 ⟨e.1, by have := e.2; rw [hh] at this; injection this⟩
        have main : (1 < d.length ∧ (((({ data := d.toArray } : ByteArray)[0]'(by simpa [ByteArray.size] using hpos)).toNat : Int) == 48) = false) ∨ d.length ≤ 1 := by
          by_cases e : 1 < d.length
          · refine Or.inl ⟨e, ?_⟩
            rw [hix0, beq_eq_false_iff_ne]; intro e2; exact a1 ⟨e, UInt8.toNat_inj.1 (show d[0].toNat = 48 by omega)⟩
          · exact Or.inr (by omega)
        clear hh hix0 a1
        cases b with
        | false =>
          have HR := Lib.hid (numE_bad false d hd hne (canon_not _ _ (Or.inr (Or.inr (Or.inl (hF rfl))))))
          clear hd hT hF hA
          rcases main with ⟨m1, m2⟩ | m1
          all_goals
            go_wp2_with fail
            go_ret3
            exact ⟨HR.out, rfl⟩
        | true =>
          have HT2 := Lib.hid (hT rfl)
          have HD := Lib.hid hd
          have HA := Lib.hid hA
          clear hT hF hd hA
          rcases Int.lt_trichotomy (x : Int) 9223372036854775808 with hx1 | hx1 | hx1
          · have hcan := canon_of false d HA.out (fun e => by cases e.1) (by have := HT2.out; omega) (by have := HT2.out; omega)
            have e2 : wrap64 (x : Int) = (x : Int) := by unfold wrap64; omega
            have g1 : decide ((9223372036854775808 : Int) < (x : Int)) = false := by rw [decide_eq_false_iff_not]; omega
            have g2 : ((x : Int) == 9223372036854775808) = false := by rw [beq_eq_false_iff_ne]; omega
            have HR := Lib.hid (numE_ok false d HD.out hne hcan (x : Int) (by unfold sgn; rw [← HT2.out]; rfl))
            clear hcan hx1 hx
            rcases main with ⟨m1, m2⟩ | m1
            all_goals
              go_wp2_with fail
              go_ret3
              exact ⟨HR.out, rfl⟩
          · have hxe : x = 9223372036854775808 := by omega
            have HX := Lib.hid hxe
            have HR := Lib.hid (numE_bad false d HD.out hne (canon_not _ _ (Or.inr (Or.inr (Or.inr ⟨by have := HT2.out; omega, rfl⟩)))))
            clear hxe hx1
            rw [HX.out]
            clear hx
            rcases main with ⟨m1, m2⟩ | m1
            all_goals
              go_wp2_with fail
              go_ret3
              exact ⟨HR.out, rfl⟩
          · have HR := Lib.hid (numE_bad false d HD.out hne (canon_not _ _ (Or.inr (Or.inr (Or.inl (by have := HT2.out; omega))))))
            rcases main with ⟨m1, m2⟩ | m1
            all_goals
              go_wp2_with fail
              go_ret3
              exact ⟨HR.out, rfl⟩
theorem num_ref (l : List UInt8) (w : World) (hl : l.length ≤ 4000) : Calls Tryd.prog 33 #[sv l] w fun e w' => e = NumE l ∧ w = w' := by
  cases l with
  | nil => exact num_pos [] w hl rfl
  | cons c d =>
    by_cases hc : c = 45
    · subst hc; exact num_neg d w (by simp at hl; omega)
    · exact num_pos (c :: d) w hl (by simpa using hc)
end Go.Proofs.YtejgmiljjpgbpaaDoor
