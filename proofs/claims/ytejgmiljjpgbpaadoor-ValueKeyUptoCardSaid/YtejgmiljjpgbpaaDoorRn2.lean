/- The reference's Parse. (generated: tools/genprs6.py) -/
import Derived.Test.YtejgmiljjpgbpaaDoorRn1
import Derived.Test.YtejgmiljjpgbpaaDoorPn3
namespace Go.Proofs.YtejgmiljjpgbpaaDoor
open Go.ChangeShapes Go.WideShapes Go.ChangeAt Go.RowKit

theorem nr_no (l : List UInt8) (w : World) (hl : l.length ≤ 4000) (h : numF l = false) : Calls Tryd.prog 33 #[sv l] w fun e w' => e = .returned (.tuple #[.int .i64 0, .bool false, .bool false]) ∧ w = w' := by
  rw [numE_no l h]; exact num_ref l w hl
theorem nr_bad (l : List UInt8) (w : World) (hl : l.length ≤ 4000) (h : numF l = true) (hv : numV l = none) : Calls Tryd.prog 33 #[sv l] w fun e w' => e = .returned (.tuple #[.int .i64 0, .bool false, .bool true]) ∧ w = w' := by
  rw [show Ending.returned (.tuple #[.int .i64 0, .bool false, .bool true]) = NumE l by unfold NumE; rw [h, hv]; rfl]; exact num_ref l w hl
theorem nr_ok (l : List UInt8) (n : Int) (w : World) (hl : l.length ≤ 4000) (h : numF l = true) (hv : numV l = some n) : Calls Tryd.prog 33 #[sv l] w fun e w' => e = .returned (.tuple #[.int .i64 n, .bool true, .bool true]) ∧ w = w' := by
  rw [show Ending.returned (.tuple #[.int .i64 n, .bool true, .bool true]) = NumE l by unfold NumE; rw [h, hv]; rfl]; exact num_ref l w hl
theorem qin_none2 (l : List UInt8) (h : qin l = none) : l.length < 2 ∨ ∃ h2 : 2 ≤ l.length, l[0] ≠ 39 ∨ (l[0] = 39 ∧ l[l.length - 1] ≠ 39) := by
  rcases qin_none l h with h1 | ⟨h1, h2⟩ | ⟨h1, h2, h3⟩
  · exact Or.inl h1
  · refine Or.inr ⟨h1, Or.inl fun e => ?_⟩
    cases l with
    | nil => simp at h1
    | cons c r => simp at e; subst e; simp [Lib.hasPrefix] at h2
  · refine Or.inr ⟨h1, Or.inr ⟨?_, fun e => ?_⟩⟩
    · cases l with
      | nil => simp at h1
      | cons c r => simp [Lib.hasPrefix] at h2; exact h2.symm
    · rw [suf_iff, decide_eq_false_iff_not] at h3
      apply h3
      rw [List.getLast?_eq_getElem?, List.getElem?_eq_getElem (by omega), e]
theorem qin_some2 (l i : List UInt8) (h : qin l = some i) : ∃ h2 : 2 ≤ l.length, l[0] = 39 ∧ l[l.length - 1] = 39 := by
  have e := of_qin l i h
  subst e
  refine ⟨by simp, rfl, ?_⟩
  simp [List.getElem_cons]
theorem ix_last (l : List UInt8) (h : 1 ≤ l.length) (w : World) : (Instr.index 9 (sv l) (.int .i64 ((l.length : Int) - 1))).run Tryd.prog w = .ok (.int .u8 (l[l.length - 1].toNat : Int)) w := by
  have hsz : (⟨l.toArray⟩ : ByteArray).size = l.length := by simp [ByteArray.size]
  obtain ⟨m, hm⟩ : ∃ m : Nat, m = l.length - 1 := ⟨_, rfl⟩
  have e : ((l.length : Int) - 1) = (m : Int) := by omega
  rw [e]
  have := run_index_string (P := Tryd.prog) (w := w) 9 ⟨l.toArray⟩ .i64 (m : Int) Tryd.underlying9
  rw [this, dif_pos ⟨by omega, by rw [hsz]; omega⟩]
  subst hm
  rfl
set_option maxHeartbeats 2000000 in
theorem pr_word (l : List UInt8) (w : World) (h : l = nullL ∨ l = trueL ∨ l = falseL) : Calls Tryd.prog 21 #[sv l] w fun e w' => e = .returned (.tuple #[vv (prsV l).1, .int .i64 (prsV l).2]) ∧ Ext w w' := by
  rcases h with rfl | rfl | rfl
  · rw [show prsV nullL = (⟨0, 0, []⟩, 0) from rfl]
    unfold nullL
    go_enter Tryd.func21, Tryd.ntmps21
    go_wp2_with fail
    exact bodyPost_ret (v := .tuple #[vv ⟨0, 0, []⟩, .int .i64 0]) (by simp [results, Tryd.results21, go_sem]) rfl ⟨rfl, (Ext.refl _).alloc _ _⟩
  · rw [show prsV trueL = (⟨3, 1, []⟩, 0) from rfl]
    unfold trueL
    go_enter Tryd.func21, Tryd.ntmps21
    go_wp2_with fail
    exact bodyPost_ret (v := .tuple #[vv ⟨3, 1, []⟩, .int .i64 0]) (by simp [results, Tryd.results21, go_sem]) rfl ⟨rfl, (Ext.refl _).alloc _ _⟩
  · rw [show prsV falseL = (⟨3, 0, []⟩, 0) from rfl]
    unfold falseL
    go_enter Tryd.func21, Tryd.ntmps21
    go_wp2_with fail
    exact bodyPost_ret (v := .tuple #[vv ⟨3, 0, []⟩, .int .i64 0]) (by simp [results, Tryd.results21, go_sem]) rfl ⟨rfl, (Ext.refl _).alloc _ _⟩
set_option maxHeartbeats 2000000 in
set_option maxRecDepth 100000 in
theorem pr_int (l : List UInt8) (w : World) (hl : l.length ≤ 4000) (hw : l ≠ nullL ∧ l ≠ trueL ∧ l ≠ falseL) (h : numF l = true) : Calls Tryd.prog 21 #[sv l] w fun e w' => e = .returned (.tuple #[vv (intV l).1, .int .i64 (intV l).2]) ∧ Ext w w' := by
  have b1 : (l == [110, 117, 108, 108]) = false := beq_eq_false_iff_ne.2 hw.1
  have b2 : (l == [116, 114, 117, 101]) = false := beq_eq_false_iff_ne.2 hw.2.1
  have b3 : (l == [102, 97, 108, 115, 101]) = false := beq_eq_false_iff_ne.2 hw.2.2
  clear hw
  cases hv : numV l with
  | none =>
    rw [show intV l = (⟨0, 0, []⟩, 10) by unfold intV; rw [hv]]
    have H := Lib.hid h
    have HV := Lib.hid hv
    clear h hv
    go_enter Tryd.func21, Tryd.ntmps21
    go_wp2_with fail
    refine (nr_bad l _ hl H.out HV.out).mono ?_; rintro e w1 ⟨rfl, rfl⟩
    go_wp2_with fail
    exact bodyPost_ret (v := .tuple #[vv ⟨0, 0, []⟩, .int .i64 10]) (by simp [results, Tryd.results21, go_sem]) rfl ⟨rfl, (Ext.refl _).alloc _ _⟩
  | some n =>
    rw [show intV l = (⟨1, n, []⟩, 0) by unfold intV; rw [hv]]
    have H := Lib.hid h
    have HV := Lib.hid hv
    clear h hv
    go_enter Tryd.func21, Tryd.ntmps21
    go_wp2_with fail
    refine (nr_ok l n _ hl H.out HV.out).mono ?_; rintro e w1 ⟨rfl, rfl⟩
    go_wp2_with fail
    exact bodyPost_ret (v := .tuple #[vv ⟨1, n, []⟩, .int .i64 0]) (by simp [results, Tryd.results21, go_sem]) rfl ⟨rfl, (Ext.refl _).alloc _ _⟩
set_option maxHeartbeats 2000000 in
set_option maxRecDepth 100000 in
theorem pr_noq (l : List UInt8) (w : World) (hl : l.length ≤ 4000) (hw : l ≠ nullL ∧ l ≠ trueL ∧ l ≠ falseL) (h : numF l = false) (hq : qin l = none) : Calls Tryd.prog 21 #[sv l] w fun e w' => e = .returned (.tuple #[vv ⟨0, 0, []⟩, .int .i64 5]) ∧ Ext w w' := by
  have b1 : (l == [110, 117, 108, 108]) = false := beq_eq_false_iff_ne.2 hw.1
  have b2 : (l == [116, 114, 117, 101]) = false := beq_eq_false_iff_ne.2 hw.2.1
  have b3 : (l == [102, 97, 108, 115, 101]) = false := beq_eq_false_iff_ne.2 hw.2.2
  clear hw
  have H := Lib.hid h
  clear h
  rcases qin_none2 l hq with h1 | ⟨h1, h2 | ⟨h2, h3⟩⟩
  · clear hq
    go_enter Tryd.func21, Tryd.ntmps21
    go_wp2_with fail
    refine (nr_no l _ hl H.out).mono ?_; rintro e w1 ⟨rfl, rfl⟩
    go_wp2_with fail
    exact bodyPost_ret (v := .tuple #[vv ⟨0, 0, []⟩, .int .i64 5]) (by simp [results, Tryd.results21, go_sem]) rfl ⟨rfl, (Ext.refl _).alloc _ _⟩
  · have c0 : (((({ data := l.toArray } : ByteArray)[0]'(by simp [ByteArray.size]; omega)).toNat : Int) == 39) = false := by
      show ((l[0].toNat : Int) == 39) = false
      rw [beq_eq_false_iff_ne]; intro e; exact h2 (UInt8.toNat_inj.1 (show l[0].toNat = 39 by omega))
    have d2 : decide ((l.length : Int) < 2) = false := by rw [decide_eq_false_iff_not]; omega
    clear hq h2
    go_enter Tryd.func21, Tryd.ntmps21
    go_wp2_with fail
    refine (nr_no l _ hl H.out).mono ?_; rintro e w1 ⟨rfl, rfl⟩
    go_wp2_with fail
    exact bodyPost_ret (v := .tuple #[vv ⟨0, 0, []⟩, .int .i64 5]) (by simp [results, Tryd.results21, go_sem]) rfl ⟨rfl, (Ext.refl _).alloc _ _⟩
  · have c0 : (((({ data := l.toArray } : ByteArray)[0]'(by simp [ByteArray.size]; omega)).toNat : Int) == 39) = true := by
      show ((l[0].toNat : Int) == 39) = true
      rw [h2]; rfl
    have c2 : ∀ h, ({ data := l.toArray } : ByteArray)[0]'h = 39 := fun _ => h2
    have ixl := ix_last l (by omega)
    have c1 : ((l[l.length - 1].toNat : Int) == 39) = false := by
      rw [beq_eq_false_iff_ne]; intro e; exact h3 (UInt8.toNat_inj.1 (show l[l.length - 1].toNat = 39 by omega))
    have c3 : ¬ (l[l.length - 1].toNat : Int) = 39 := fun e => h3 (UInt8.toNat_inj.1 (show l[l.length - 1].toNat = 39 by omega))
    have d2 : decide ((l.length : Int) < 2) = false := by rw [decide_eq_false_iff_not]; omega
    clear hq h2 h3
    go_enter Tryd.func21, Tryd.ntmps21
    go_wp2_with fail
    refine (nr_no l _ hl H.out).mono ?_; rintro e w1 ⟨rfl, rfl⟩
    go_wp2_with fail
    exact bodyPost_ret (v := .tuple #[vv ⟨0, 0, []⟩, .int .i64 5]) (by simp [results, Tryd.results21, go_sem]) rfl ⟨rfl, (Ext.refl _).alloc _ _⟩
def PrR (W : World) (inn : List UInt8) (b i : Value) (wr : World) : Prop := ∃ (k : Nat) (s : List UInt8), k ≤ inn.length ∧ s.length ≤ k ∧ i = .int .i64 k ∧ Hid (unq inn = (unq (inn.drop k)).map (s ++ ·)) ∧ OwnB W wr b s
def PrE (r : Option (List UInt8)) : V × Int := match r with
  | none => (⟨0, 0, []⟩, 5)
  | some s => if s.length ≤ 200 then (⟨2, 0, s⟩, 0) else (⟨0, 0, []⟩, 4)
theorem unq_stop1 (inn s : List UInt8) (k : Nat) (h : k < inn.length) (hq : inn[k] = 39) (he : k + 1 = inn.length) (hs : unq inn = (unq (inn.drop k)).map (s ++ ·)) : unq inn = none := by
  rw [hs, List.drop_eq_getElem_cons h, hq, List.drop_of_length_le (by omega), unq_one]; rfl
theorem unq_stop2 (inn s : List UInt8) (k : Nat) (h : k + 1 < inn.length) (hq : inn[k]'(by omega) = 39) (hq2 : inn[k + 1] ≠ 39) (hs : unq inn = (unq (inn.drop k)).map (s ++ ·)) : unq inn = none := by
  rw [hs, List.drop_eq_getElem_cons (show k < inn.length by omega), List.drop_eq_getElem_cons h, hq, unq_bad _ _ hq2]; rfl
theorem u8b_no (c : UInt8) (h : c ≠ 39) : ((c.toNat : Int) == 39) = false := by
  rw [beq_eq_false_iff_ne]; intro e; exact h (UInt8.toNat_inj.1 (show c.toNat = 39 by omega))
theorem u8b_yes (c : UInt8) (h : c = 39) : ((c.toNat : Int) == 39) = true := by rw [h]; rfl
set_option maxHeartbeats 4000000 in
set_option maxRecDepth 100000 in
theorem pr_text (l inn : List UInt8) (w : World) (hl : l.length ≤ 4000) (hw : l ≠ nullL ∧ l ≠ trueL ∧ l ≠ falseL) (h : numF l = false) (hq : qin l = some inn) : Calls Tryd.prog 21 #[sv l] w fun e w' => e = .returned (.tuple #[vv (PrE (unq inn)).1, .int .i64 (PrE (unq inn)).2]) ∧ Ext w w' := by
  have b1 : (l == [110, 117, 108, 108]) = false := beq_eq_false_iff_ne.2 hw.1
  have b2 : (l == [116, 114, 117, 101]) = false := beq_eq_false_iff_ne.2 hw.2.1
  have b3 : (l == [102, 97, 108, 115, 101]) = false := beq_eq_false_iff_ne.2 hw.2.2
  clear hw
  have H := Lib.hid h
  obtain ⟨h1, h2, h3⟩ := qin_some2 l inn hq
  have c2 : ∀ h, ({ data := l.toArray } : ByteArray)[0]'h = 39 := fun _ => h2
  have ixl0 := ix_last l (by omega)
  have ixl : ∀ w : World, (Instr.index 9 (sv l) (.int .i64 ((l.length : Int) - 1))).run Tryd.prog w = .ok (.int .u8 39) w := fun w => by rw [ixl0 w, h3]; rfl
  clear ixl0
  obtain ⟨_, _, _, h4, h5⟩ := qin_some l inn hq
  have d2 : decide ((l.length : Int) < 2) = false := by rw [decide_eq_false_iff_not]; omega
  have sl : ∀ w : World, (Instr.slice 9 (sv l) (some (.int .i64 1)) (some (.int .i64 ((l.length : Int) - 1))) none).run Tryd.prog w = .ok (sv inn) w := fun w => by
    have hsz : (⟨l.toArray⟩ : ByteArray).size = l.length := by simp [ByteArray.size]
    have := run_slice_string (P := Tryd.prog) (w := w) 9 ⟨l.toArray⟩ .i64 .i64 1 ((l.length : Int) - 1) Tryd.underlying9 (by omega) (by omega) (by rw [hsz]; omega)
    rw [this]
    rw [show ((l.length : Int) - 1).toNat = l.length - 1 by omega]
    rw [show (1 : Int).toNat = 1 from rfl, h5]
  have hi : inn.length ≤ 4000 := by omega
  clear h hq h2 h3 h4 h5
  go_enter Tryd.func21, Tryd.ntmps21
  go_wp2_with fail
  refine (nr_no l _ hl H.out).mono ?_; rintro e w1 ⟨rfl, rfl⟩
  go_wp2_with fail
  clear sl c2 ixl d2 b1 b2 b3
  go_loopw [8, 9] (PrR (w.alloc (.cells #[.int .i64 0, .int .i64 0, .string ⟨#[]⟩] 23)) inn) (fun _ i _ => inn.length - (intOf i).toNat)
  case atStart => exact ⟨0, [], Nat.zero_le _, Nat.le_refl _, rfl, Lib.hid (unq_at0 inn), OwnB.nil _ _ (Ext.refl _)⟩
  case round =>
    obtain ⟨k, s, hk, hsk, rfl, HU, hO⟩ := hrel
    by_cases hlt : k < inn.length
    · by_cases hq : inn[k] = 39
      · have hn : (((({ data := inn.toArray } : ByteArray)[k]'(by simpa [ByteArray.size] using hlt)).toNat : Int) == 39) = true := u8b_yes inn[k] hq
        by_cases he : k + 1 = inn.length
        · have HN := Lib.hid (unq_stop1 inn s k hlt hq he HU.out)
          have g1 : ((k : Int) + 1 == (inn.length : Int)) = true := by rw [beq_iff_eq]; omega
          obtain ⟨k0, k1, k2, kf, hz, hW⟩ := res3 hO.2
          have HP := Lib.hid (show PrE (unq inn) = (⟨0, 0, []⟩, 5) by rw [HN.out]; rfl)
          clear hq he
          go_wp2_with fail
          exact bodyPost_ret (v := .tuple #[vv ⟨0, 0, []⟩, .int .i64 5]) (by simp [results, Tryd.results21, go_sem, k0, k1, k2]) rfl ⟨by rw [HP.out], ((hW.setNew _ _ (Nat.le_refl _) _).setNew _ _ (Nat.le_refl _) _).setNew _ _ (Nat.le_refl _) _⟩
        · have h2 : k + 1 < inn.length := by omega
          have g1 : ((k : Int) + 1 == (inn.length : Int)) = false := by rw [beq_eq_false_iff_ne]; omega
          by_cases hq2 : inn[k + 1] = 39
          · have HS := Lib.hid (unq_step2 inn s k h2 hq hq2 HU.out)
            have hn2 : (((({ data := inn.toArray } : ByteArray)[k + 1]'(by simpa [ByteArray.size] using h2)).toNat : Int) == 39) = true := u8b_yes inn[k + 1] hq2
            clear hq he hq2
            go_wp2_with (at_builtin; refine appB rfl _ _ rfl (w.alloc (.cells #[.int .i64 0, .int .i64 0, .string ⟨#[]⟩] 23)) _ _ rfl (hO.ext ((Ext.refl _).alloc _ _)) _ [inn[k + 1]] rfl (rdB_lit wr inn[k + 1] _ rfl _ rfl) (by simp only [List.length_cons, List.length_nil]; omega) ?_; intro v1 x1 hO1 hg1)
            go_roundw
            case rel => exact ⟨k + 1 + 1, s ++ [inn[k + 1]], by omega, by simp; omega, by go_num, HS, hO1⟩
            case measure => simp [intOf]; omega
          · have HN := Lib.hid (unq_stop2 inn s k h2 hq hq2 HU.out)
            have hn2 : (((({ data := inn.toArray } : ByteArray)[k + 1]'(by simpa [ByteArray.size] using h2)).toNat : Int) == 39) = false := u8b_no inn[k + 1] hq2
            obtain ⟨k0, k1, k2, kf, hz, hW⟩ := res3 hO.2
            have HP := Lib.hid (show PrE (unq inn) = (⟨0, 0, []⟩, 5) by rw [HN.out]; rfl)
            clear hq he hq2
            go_wp2_with fail
            exact bodyPost_ret (v := .tuple #[vv ⟨0, 0, []⟩, .int .i64 5]) (by simp [results, Tryd.results21, go_sem, k0, k1, k2]) rfl ⟨by rw [HP.out], ((hW.setNew _ _ (Nat.le_refl _) _).setNew _ _ (Nat.le_refl _) _).setNew _ _ (Nat.le_refl _) _⟩
      · have HS := Lib.hid (unq_step inn s k hlt hq HU.out)
        have hn : (((({ data := inn.toArray } : ByteArray)[k]'(by simpa [ByteArray.size] using hlt)).toNat : Int) == 39) = false := u8b_no inn[k] hq
        clear hq
        go_wp2_with (at_builtin; refine appB rfl _ _ rfl (w.alloc (.cells #[.int .i64 0, .int .i64 0, .string ⟨#[]⟩] 23)) _ _ rfl (hO.ext ((Ext.refl _).alloc _ _)) _ [inn[k]] rfl (rdB_lit wr inn[k] _ rfl _ rfl) (by simp only [List.length_cons, List.length_nil]; omega) ?_; intro v1 x1 hO1 hg1)
        go_roundw
        case rel => exact ⟨k + 1, s ++ [inn[k]], by omega, by simp; omega, by go_num, HS, hO1⟩
        case measure => simp [intOf]; omega
    · have hR : unq inn = some s := by rw [HU.out, List.drop_of_length_le (by omega)]; simp [unq]
      obtain ⟨k0, k1, k2, kf, hz, hW⟩ := res3 hO.2
      have cv := hO.rd.text
      obtain ⟨ad, cap, rfl, _⟩ := hO.rd
      by_cases h2 : s.length ≤ 200
      · have HP := Lib.hid (show PrE (unq inn) = (⟨2, 0, s⟩, 0) by rw [hR]; unfold PrE; simp only [if_pos h2])
        clear hR
        go_wp2_with fail
        exact bodyPost_ret (v := .tuple #[vv ⟨2, 0, s⟩, .int .i64 0]) (by simp [results, Tryd.results21, go_sem, k0, k1, k2]) rfl ⟨by rw [HP.out], ((hW.setNew _ _ (Nat.le_refl _) _).setNew _ _ (Nat.le_refl _) _).setNew _ _ (Nat.le_refl _) _⟩
      · have HP := Lib.hid (show PrE (unq inn) = (⟨0, 0, []⟩, 4) by rw [hR]; unfold PrE; simp only [if_neg h2])
        clear hR
        go_wp2_with fail
        exact bodyPost_ret (v := .tuple #[vv ⟨0, 0, []⟩, .int .i64 4]) (by simp [results, Tryd.results21, go_sem, k0, k1, k2]) rfl ⟨by rw [HP.out], ((hW.setNew _ _ (Nat.le_refl _) _).setNew _ _ (Nat.le_refl _) _).setNew _ _ (Nat.le_refl _) _⟩
theorem txt_pre (l i : List UInt8) (h : qin l = some i) : txtV l = PrE (unq i) := by
  unfold txtV PrE; rw [h]; rfl
theorem prs_ref (l : List UInt8) (w : World) (hl : l.length ≤ 4000) : Calls Tryd.prog 21 #[sv l] w fun e w' => e = .returned (.tuple #[vv (prsV l).1, .int .i64 (prsV l).2]) ∧ Ext w w' := by
  by_cases hw : l = nullL ∨ l = trueL ∨ l = falseL
  · exact pr_word l w hw
  have hw' : l ≠ nullL ∧ l ≠ trueL ∧ l ≠ falseL := ⟨fun e => hw (Or.inl e), fun e => hw (Or.inr (Or.inl e)), fun e => hw (Or.inr (Or.inr e))⟩
  cases h4 : numF l with
  | true => rw [prs_num l h4]; exact pr_int l w hl hw' h4
  | false =>
    rw [show prsV l = txtV l by unfold prsV; rw [if_neg hw'.1, if_neg hw'.2.1, if_neg hw'.2.2, h4]; rfl]
    cases hq : qin l with
    | none => rw [txt_none l (by rw [hq]; rfl)]; exact pr_noq l w hl hw' h4 hq
    | some i => rw [txt_pre l i hq]; exact pr_text l i w hl hw' h4 hq
end Go.Proofs.YtejgmiljjpgbpaaDoor
