/- The contract of the reference's SubtractSet. -/
import Derived.Test.YtckknhocmbhmhaaRst
import Derived.Test.YtckknhocmbhmhaaCom2
import Derived.Test.YtckknhocmbhmhaaNrm
namespace Go.Proofs.Ytckknhocmbhmhaa
open Go.ChangeShapes Go.WideShapes Go.ChangeAt Go.RowKit

theorem rd_row {w : World} {v : Value} {l : List (Int × Int)} (h : w.ownsRow 0 30 2 v l.length (cellsL l)) : ∃ ad cap, v = .slice ad l.length cap ∧ ∀ (i : Nat) (h : i < l.length), ∃ g o, ad = some ⟨g, o, none⟩ ∧ w.cell? ⟨g, o + i * 2, none⟩ = some (.int .i64 l[i].1) ∧ w.cell? ⟨g, o + i * 2 + 1, none⟩ = some (.int .i64 l[i].2) := by
  obtain ⟨ad, cap, e, _, _, _, h⟩ := rd_of_owns h
  exact ⟨ad, cap, e, h⟩
set_option maxHeartbeats 16000000 in
theorem subt_ref (a0 b0 : List (Int × Int)) (va vb : Value) (w : World) (ha : Rd w va a0) (hb : Rd w vb b0) : Calls Try.prog 23 #[va, vb] w (SetPost (subB a0 b0) w) := by
  have HA0 := Lib.hid ha
  obtain ⟨adb, capb, rfl, hc, hm, _, hxb⟩ := hb
  have HXB := Lib.hid hxb
  have lb : b0.length ≤ maxLen := Nat.le_trans hc hm
  obtain ⟨nb, hnb⟩ : ∃ n, n = b0.length := ⟨_, rfl⟩
  have HNB := Lib.hid hnb
  unfold maxLen at lb
  rw [← hnb] at lb ⊢
  clear ha hxb hc hm hnb
  go_enter Try.func23, Try.ntmps23
  go_wp2_with fail
  refine (norm_ref a0 va w HA0.out).mono ?_
  rintro e w1 ⟨v1, l1, rfl, n1, m1, o1, e1⟩
  have H1 := Lib.hid (And.intro n1 (And.intro m1 o1))
  clear n1 m1 o1
  go_wp2_with fail
  go_loopw [5, 6] (fun u j wr => ∃ (k : Nat) (o : List (Int × Int)), k ≤ nb ∧ j = .int .i64 k ∧ Hid (NF o ∧ (∀ t, memB o t = (memB a0 t && !memB (b0.take k) t)) ∧ wr.ownsRow 0 30 2 u o.length (cellsL o)) ∧ Ext w wr) (fun _ j _ => nb - (intOf j).toNat)
  case atStart => exact ⟨0, l1, by omega, rfl, Lib.hid ⟨H1.out.1, fun t => by rw [H1.out.2.1]; simp [memB_nil], H1.out.2.2⟩, e1⟩
  case round =>
    obtain ⟨k, o, hk, rfl, HI, hE⟩ := hrel
    by_cases hlt : k < nb
    · have hkl : k < b0.length := by rw [← HNB.out]; exact hlt
      obtain ⟨g1, q1, rfl, d0', d1'⟩ := HXB.out k hkl
      have hst := fun t => memB_take (t := t) hkl
      obtain ⟨c, d, hcd⟩ : ∃ c d, b0[k] = (c, d) := ⟨_, _, rfl⟩
      rw [hcd] at d0' d1' hst
      simp only at d0' d1' hst
      have HST := Lib.hid hst
      obtain ⟨ado, capo, rfl, hxo⟩ := rd_row HI.out.2.2
      have HXO := Lib.hid hxo
      have lo := HI.out.1.len
      obtain ⟨no, hno⟩ : ∃ n, n = o.length := ⟨_, rfl⟩
      have HNO := Lib.hid hno
      have D0 := Lib.hid (hE.keeps d0')
      have D1 := Lib.hid (hE.keeps d1')
      have hk0 : (0 : Int) ≤ (k : Int) := by omega
      have hk1 : (k : Int) < (nb : Int) := by omega
      have hdk : decide ((k : Int) < (nb : Int)) = true := decide_eq_true hk1
      rw [← hno] at lo HI ⊢
      clear d0' d1' hcd hst hxo hno
      go_wp2_with fail
      obtain ⟨wB, rfl⟩ : ∃ z, z = wr := ⟨_, rfl⟩
      go_loopw [7, 8] (fun u j wr => ∃ (i : Nat) (r : List (Int × Int)), i ≤ no ∧ j = .int .i64 i ∧ Hid (DInv o c d i r) ∧ Own wB wr u r) (fun _ j _ => no - (intOf j).toNat)
      case atStart => exact ⟨0, [], by omega, rfl, Lib.hid (DInv.start o c d), Own.nil _ _ (Ext.refl _)⟩
      case round =>
        obtain ⟨i, r, hi, rfl, HK, hO⟩ := hrel
        by_cases hlt2 : i < no
        · have hil : i < o.length := by rw [← HNO.out]; exact hlt2
          obtain ⟨g0, q0, rfl, c0', c1'⟩ := HXO.out i hil
          obtain ⟨a, b, hab⟩ : ∃ a b, o[i] = (a, b) := ⟨_, _, rfl⟩
          rw [hab] at c0' c1'
          simp only at c0' c1'
          have HS := Lib.hid (HK.out.step HI.out.1 hil hab)
          have hlen : r.length + (subL a b c d).length ≤ 8796093022208 := by
            have := HS.out.nr.len
            rw [List.length_append] at this
            omega
          have C0 := Lib.hid c0'
          have C1 := Lib.hid c1'
          have K0 := Lib.hid (hO.2.keeps C0.out)
          have K1 := Lib.hid (hO.2.keeps C1.out)
          have K2 := Lib.hid (hO.2.keeps D0.out)
          have K3 := Lib.hid (hO.2.keeps D1.out)
          have hi0 : (0 : Int) ≤ (i : Int) := by omega
          have hi1 : (i : Int) < (no : Int) := by omega
          clear c0' c1' hab
          go_wp2_with fail
          go_region_held3 (fun w' => w'.cell? ⟨g0, q0 + i * 2, none⟩ = some (.int .i64 a) ∧ w'.cell? ⟨g0, q0 + i * 2 + 1, none⟩ = some (.int .i64 b) ∧ w'.cell? ⟨g1, q1 + k * 2, none⟩ = some (.int .i64 c) ∧ w'.cell? ⟨g1, q1 + k * 2 + 1, none⟩ = some (.int .i64 d)) (first | exact ⟨K0.out, K1.out, K2.out, K3.out⟩ | exact ⟨f0, f1, f2, f3⟩ | go_keep)
            (first | (go_at_call 35; refine (sub_ref a b c d wr.drew).mono ?_; rintro e w3 ⟨v3, rfl, o3, e3'⟩; have e3 : Ext wr w3 := e3'; have f0 := e3.keeps K0.out; have f1 := e3.keeps K1.out; have f2 := e3.keeps K2.out; have f3 := e3.keeps K3.out) | (refine step_appR rfl _ _ rfl wB _ r rfl (hO.ext e3) v3 (subL a b c d) rfl (rd_of_owns o3) hlen ?_; intro v4 w4 hO4 hg4; have f0 := hO4.2.keeps C0.out; have f1 := hO4.2.keeps C1.out; have f2 := hO4.2.keeps D0.out; have f3 := hO4.2.keeps D1.out))
          go_wp2_with fail
          go_roundw
          case rel => exact ⟨i + 1, r ++ subL a b c d, by omega, by go_num, HS, hO4⟩
          case measure => simp [intOf]; omega
        · have hin : i = o.length := by have := HNO.out; omega
          have HD := Lib.hid ((show DInv o c d o.length r from hin ▸ HK.out).done)
          clear hin
          go_wp2_with fail
          go_roundw
          case rel => exact ⟨k + 1, r, by omega, by go_num, Lib.hid ⟨HD.out.1, fun t => by
            rw [HD.out.2, HI.out.2.1, HST.out]
            cases memB a0 t <;> cases memB (b0.take k) t <;> cases incB c d t <;> rfl, hO.zero⟩, hE.trans hO.2⟩
          case measure => simp [intOf]; omega
    · have hkn : k = nb := by omega
      have hall : b0.take k = b0 := by rw [hkn, HNB.out]; exact List.take_length
      have HS := Lib.hid (show ∀ t, memB o t = (memB a0 t && !memB b0 t) by have := HI.out.2.1; rwa [hall] at this)
      clear hall hkn
      go_wp2_with fail
      go_ret
      exact ⟨_, o, rfl, HI.out.1, HS.out, HI.out.2.2, hE⟩
end Go.Proofs.Ytckknhocmbhmhaa
