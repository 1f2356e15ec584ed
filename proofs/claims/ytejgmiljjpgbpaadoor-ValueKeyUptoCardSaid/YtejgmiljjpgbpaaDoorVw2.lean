/- The reference's decimal. -/
import Derived.Test.YtejgmiljjpgbpaaDoorVw1
import Derived.Test.YtejgmiljjpgbpaaDoorAppB
import Derived.Lib.ItoaLen
namespace Go.Proofs.YtejgmiljjpgbpaaDoor
open Go.ChangeShapes Go.WideShapes Go.ChangeAt Go.RowKit

theorem ret_sv {a b : List UInt8} (h : a = b) : Ending.returned (sv a) = .returned (sv b) := by rw [h]
/-- digits still to come before those that are there -/
def decX (x : Nat) (l : List UInt8) : List UInt8 := if x = 0 ∧ l ≠ [] then l else Lib.decDigits x ++ l
theorem decX_start (x : Nat) : decX x [] = Lib.decDigits x := by unfold decX; rw [if_neg (by simp)]; simp
theorem decX_step (x : Nat) (l : List UInt8) (h : ¬ (x = 0 ∧ l ≠ [])) : decX (x / 10) (UInt8.ofNat (48 + x % 10) :: l) = decX x l := by
  unfold decX
  rw [if_neg h]
  by_cases h10 : x < 10
  · rw [if_pos ⟨by omega, by simp⟩, Lib.decDigits, dif_pos h10, Nat.mod_eq_of_lt h10]; rfl
  · rw [if_neg (by omega)]
    conv => rhs; rw [Lib.decDigits, dif_neg h10]
    simp
theorem decX_end (l : List UInt8) (h : l ≠ []) : decX 0 l = l := by unfold decX; rw [if_pos ⟨rfl, h⟩]
theorem decX_len (x : Nat) (l : List UInt8) : l.length ≤ (decX x l).length := by unfold decX; split <;> simp
theorem dec_len20 (N : Nat) (h : N < 18446744073709551616) : (Lib.decDigits N).length ≤ 20 := by rw [Lib.decDigits_length]; exact Lib.nDigits_le20 N h
def decM (u b : Value) : Nat := (intOf u).toNat * 2 + (if lenOf b = 0 then 1 else 0)
theorem decM_down (x : Nat) (v v' : Value) (n n' : Nat) (h : lenOf v = n) (h' : lenOf v' = n' + 1) (hx : 0 < x ∨ n = 0) : decM (.int .u64 ((x : Int) / 10)) v' < decM (.int .u64 (x : Int)) v := by
  unfold decM
  rw [h, h', if_neg (by omega)]
  have e1 : (intOf (.int .u64 ((x : Int) / 10))).toNat = x / 10 := by simp only [intOf]; omega
  have e2 : (intOf (.int .u64 (x : Int))).toNat = x := by simp [intOf]
  rw [e1, e2]
  rcases hx with hx | hx
  · omega
  · rw [if_pos hx]; omega
/-- the loop's relation -/
def DecR (w : World) (N : Nat) (u b : Value) (wr : World) : Prop := ∃ x l, u = .int .u64 (x : Nat) ∧ (x : Int) ≤ 9223372036854775808 ∧ OwnB w wr b l ∧ decX x l = Lib.decDigits N
theorem ofNat_u8 (x : Nat) : ((48 : Int) + (x : Int) % 10) = ((UInt8.ofNat (48 + x % 10)).toNat : Int) := by rw [UInt8.toNat_ofNat']; omega
set_option maxHeartbeats 2000000 in
set_option maxRecDepth 100000 in
theorem dec_ref (n : Int) (w : World) (h0 : -9223372036854775808 ≤ n) (h1 : n ≤ 9223372036854775807) : Calls Tryd.prog 28 #[.int .i64 n] w fun e w' => e = .returned (sv (Lib.itoa n)) ∧ Ext w w' := by
  by_cases hn : n < 0
  · obtain ⟨N, hN⟩ : ∃ N : Nat, N = n.natAbs := ⟨_, rfl⟩
    obtain rfl : n = -(N : Int) := by omega
    have HI := Lib.hid (show Lib.itoa (-(N : Int)) = 45 :: Lib.decDigits N by unfold Lib.itoa; rw [if_pos hn, ← hN])
    have hN0 : 0 < N := by omega
    have e1 : IntKind.u64.wrap (-(N : Int)) = 18446744073709551616 - (N : Int) := by unfold IntKind.wrap; simp [IntKind.signed, IntKind.bits]; omega
    have e2 : IntKind.u64.wrap (-(18446744073709551616 - (N : Int))) = (N : Int) := by unfold IntKind.wrap; simp [IntKind.signed, IntKind.bits]; omega
    clear hN hn
    go_enter Tryd.func28, Tryd.ntmps28
    go_wp2_with fail
    clear e1 e2
    go_loopw [3, 5] (DecR w N) (fun u b _ => decM u b)
    case atStart => exact ⟨N, [], rfl, by omega, OwnB.nil _ _ (Ext.refl _), decX_start N⟩
    case round =>
      obtain ⟨x, l, rfl, hx, hO, hX⟩ := hrel
      have HX := Lib.hid hX
      clear hX
      have hll : l.length ≤ 20 := Nat.le_trans (decX_len x l) (by rw [HX.out]; exact dec_len20 N (by omega))
      obtain ⟨ad, cap, rfl, _⟩ := hO.rd
      by_cases hex : x = 0 ∧ l ≠ []
      · clear hx
        obtain ⟨rfl, hl⟩ := hex
        have HR := Lib.hid (show 45 :: l = Lib.itoa (-(N : Int)) by rw [HI.out, ← HX.out, decX_end l hl])
        have hpos : 0 < l.length := List.length_pos_iff.2 hl
        have cv := hO.rd.text
        go_wp2_with fail
        go_ret
        exact ⟨ret_sv HR.out, hO.2⟩
      · have HS := Lib.hid (decX_step x l hex)
        have hcase : 0 < x ∨ (x = 0 ∧ l = []) := by
          rcases Nat.eq_zero_or_pos x with h | h
          · exact Or.inr ⟨h, Classical.byContradiction fun e => hex ⟨h, e⟩⟩
          · exact Or.inl h
        clear hex
        rcases hcase with hp | ⟨rfl, rfl⟩
        · go_wp2_with (at_builtin; refine appB rfl _ _ rfl w _ [UInt8.ofNat (48 + x % 10)] rfl (ownB_lit hO.2 _ _ (ofNat_u8 x) _ rfl) _ _ rfl (hO.rd.ext ((Ext.refl _).alloc _ _)) (by simp; omega) ?_; intro v' w' hO' hg')
          go_roundw
          case rel => exact ⟨x / 10, _, by simp, by omega, hO', by rw [← HX.out]; exact HS.out⟩
          case measure => exact decM_down x _ v' l.length l.length rfl (owns_len hO'.1) (Or.inl hp)
        · clear hx
          go_wp2_with (at_builtin; refine appB rfl _ _ rfl w _ [48] rfl (ownB_lit hO.2 48 48 rfl _ rfl) _ [] rfl (hO.rd.ext ((Ext.refl _).alloc _ _)) (by simp) ?_; intro v' w' hO' hg')
          go_roundw
          case rel => exact ⟨0, [48], by simp, by simp, hO', by rw [← HX.out]; exact HS.out⟩
          case measure => exact decM_down 0 _ v' 0 0 rfl (owns_len hO'.1) (Or.inr rfl)
  · obtain ⟨N, hN⟩ : ∃ N : Nat, N = n.natAbs := ⟨_, rfl⟩
    obtain rfl : n = (N : Int) := by omega
    have HI := Lib.hid (show Lib.itoa (N : Int) = Lib.decDigits N by unfold Lib.itoa; rw [if_neg hn]; rfl)
    have e1 : IntKind.u64.wrap (N : Int) = (N : Int) := by unfold IntKind.wrap; simp [IntKind.signed, IntKind.bits]; omega
    clear hN
    go_enter Tryd.func28, Tryd.ntmps28
    go_wp2_with fail
    clear e1
    go_loopw [3, 5] (DecR w N) (fun u b _ => decM u b)
    case atStart => exact ⟨N, [], rfl, by omega, OwnB.nil _ _ (Ext.refl _), decX_start N⟩
    case round =>
      obtain ⟨x, l, rfl, hx, hO, hX⟩ := hrel
      have HX := Lib.hid hX
      clear hX
      have hll : l.length ≤ 20 := Nat.le_trans (decX_len x l) (by rw [HX.out]; exact dec_len20 N (by omega))
      obtain ⟨ad, cap, rfl, _⟩ := hO.rd
      by_cases hex : x = 0 ∧ l ≠ []
      · clear hx
        obtain ⟨rfl, hl⟩ := hex
        have HR := Lib.hid (show l = Lib.itoa ((N : Int)) by rw [HI.out, ← HX.out, decX_end l hl])
        have hpos : 0 < l.length := List.length_pos_iff.2 hl
        have cv := hO.rd.text
        go_wp2_with fail
        go_ret
        exact ⟨ret_sv HR.out, hO.2⟩
      · have HS := Lib.hid (decX_step x l hex)
        have hcase : 0 < x ∨ (x = 0 ∧ l = []) := by
          rcases Nat.eq_zero_or_pos x with h | h
          · exact Or.inr ⟨h, Classical.byContradiction fun e => hex ⟨h, e⟩⟩
          · exact Or.inl h
        clear hex
        rcases hcase with hp | ⟨rfl, rfl⟩
        · go_wp2_with (at_builtin; refine appB rfl _ _ rfl w _ [UInt8.ofNat (48 + x % 10)] rfl (ownB_lit hO.2 _ _ (ofNat_u8 x) _ rfl) _ _ rfl (hO.rd.ext ((Ext.refl _).alloc _ _)) (by simp; omega) ?_; intro v' w' hO' hg')
          go_roundw
          case rel => exact ⟨x / 10, _, by simp, by omega, hO', by rw [← HX.out]; exact HS.out⟩
          case measure => exact decM_down x _ v' l.length l.length rfl (owns_len hO'.1) (Or.inl hp)
        · clear hx
          go_wp2_with (at_builtin; refine appB rfl _ _ rfl w _ [48] rfl (ownB_lit hO.2 48 48 rfl _ rfl) _ [] rfl (hO.rd.ext ((Ext.refl _).alloc _ _)) (by simp) ?_; intro v' w' hO' hg')
          go_roundw
          case rel => exact ⟨0, [48], by simp, by simp, hO', by rw [← HX.out]; exact HS.out⟩
          case measure => exact decM_down 0 _ v' 0 0 rfl (owns_len hO'.1) (Or.inr rfl)
end Go.Proofs.YtejgmiljjpgbpaaDoor
