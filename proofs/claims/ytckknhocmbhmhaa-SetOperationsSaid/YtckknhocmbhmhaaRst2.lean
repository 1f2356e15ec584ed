/- The contract of the reference's IntersectSet. -/
import Derived.Test.YtckknhocmbhmhaaRst
import Derived.Test.YtckknhocmbhmhaaCom2
import Derived.Test.YtckknhocmbhmhaaNrm
namespace Go.Proofs.Ytckknhocmbhmhaa
open Go.ChangeShapes Go.WideShapes Go.ChangeAt Go.RowKit

theorem ris_at (a b c d x y : Int) (v : Bool) (w : World) (h : itB a b c d = v) (hx : itF a b c d = x) (hy : itT a b c d = y) : Calls Try.prog 33 #[pv a b, pv c d] w fun e w' => e = .returned (.tuple #[pv x y, .bool v]) ∧ Grown w w' := by
  have := is_ref a b c d w; rwa [h, hx, hy] at this
set_option maxHeartbeats 16000000 in
theorem inter_ref (a0 b0 : List (Int × Int)) (va vb : Value) (w : World) (ha : Rd w va a0) (hb : Rd w vb b0) : Calls Try.prog 21 #[va, vb] w (SetPost (andB a0 b0) w) := by
  have HA0 := Lib.hid ha
  have HB0 := Lib.hid hb
  clear ha hb
  go_enter Try.func21, Try.ntmps21
  go_wp2_with fail
  refine (norm_ref a0 va w HA0.out).mono ?_
  rintro e w1 ⟨v1, A, rfl, n1, m1, o1, e1⟩
  have H1 := Lib.hid (And.intro n1 (And.intro m1 o1))
  clear n1 m1 o1
  go_wp2_with fail
  refine (norm_ref b0 vb w1 (HB0.out.ext e1)).mono ?_
  rintro e w2 ⟨v2, B, rfl, n2, m2, o2, e2⟩
  have H2 := Lib.hid (And.intro n2 (And.intro m2 o2))
  clear n2 m2 o2
  obtain ⟨ada, capa, rfl, _, _, _, hxa⟩ := rd_of_owns (e2.owns H1.out.2.2)
  obtain ⟨adb, capb, rfl, _, _, _, hxb⟩ := rd_of_owns H2.out.2.2
  have HXA := Lib.hid hxa
  have HXB := Lib.hid hxb
  have HE := Lib.hid (e1.trans e2)
  have la := H1.out.1.len
  have lb := H2.out.1.len
  have HNA' := Lib.hid H1.out.1
  have HNB' := Lib.hid H2.out.1
  have HMA := Lib.hid H1.out.2.1
  have HMB := Lib.hid H2.out.2.1
  obtain ⟨na, hna⟩ : ∃ n, n = A.length := ⟨_, rfl⟩
  obtain ⟨nb, hnb⟩ : ∃ n, n = B.length := ⟨_, rfl⟩
  have HNA := Lib.hid hna
  have HNB := Lib.hid hnb
  rw [← hna] at la ⊢
  rw [← hnb] at lb ⊢
  clear hna hnb hxa hxb e1 e2 H1 H2
  go_wp2_with fail
  go_loopw [5, 6] (fun u j wr => ∃ (i : Nat) (r : List (Int × Int)), i ≤ na ∧ j = .int .i64 i ∧ Hid (OInv A B i r) ∧ Own w2 wr u r) (fun _ j _ => na - (intOf j).toNat)
  case atStart => exact ⟨0, [], by omega, rfl, Lib.hid (OInv.start A B), Own.nil _ _ (Ext.refl _)⟩
  case round =>
    obtain ⟨i, r0, hi, rfl, HO, hO0⟩ := hrel
    by_cases hlt : i < na
    · have hil : i < A.length := by rw [← HNA.out]; exact hlt
      obtain ⟨g0, o0, rfl, c0', c1'⟩ := HXA.out i hil
      obtain ⟨a, b, hab⟩ : ∃ a b, A[i] = (a, b) := ⟨_, _, rfl⟩
      rw [hab] at c0' c1'
      simp only at c0' c1'
      have HAB := Lib.hid hab
      have C0 := Lib.hid c0'
      have C1 := Lib.hid c1'
      have HK0 := Lib.hid (HO.out.go a b)
      have hi0 : (0 : Int) ≤ (i : Int) := by omega
      have hi1 : (i : Int) < (na : Int) := by omega
      have hd : decide ((i : Int) < (na : Int)) = true := decide_eq_true hi1
      clear c0' c1' hab
      go_wp2_with fail
      obtain ⟨wA, rfl⟩ : ∃ z, z = wr := ⟨_, rfl⟩
      go_loopw [5, 7] (fun u j wr => ∃ (k : Nat) (r : List (Int × Int)), k ≤ nb ∧ j = .int .i64 k ∧ Hid (KInv A B i a b k r) ∧ Own w2 wr u r) (fun _ j _ => nb - (intOf j).toNat)
      case atStart => exact ⟨0, r0, by omega, rfl, HK0, hO0⟩
      case round =>
        obtain ⟨k, r, hk, rfl, HK, hO⟩ := hrel
        have hr := HK.out.nr.len
        clear hO0 HK0
        by_cases hlt2 : k < nb
        · have hkl : k < B.length := by rw [← HNB.out]; exact hlt2
          obtain ⟨g1, o1, rfl, d0', d1'⟩ := HXB.out k hkl
          obtain ⟨c, d, hcd⟩ : ∃ c d, B[k] = (c, d) := ⟨_, _, rfl⟩
          rw [hcd] at d0' d1'
          simp only at d0' d1'
          have hst := HK.out.step HNA'.out HNB'.out hil HAB.out hkl hcd
          have K0 := Lib.hid (hO.2.keeps C0.out)
          have K1 := Lib.hid (hO.2.keeps C1.out)
          have K2 := Lib.hid (hO.2.keeps d0')
          have K3 := Lib.hid (hO.2.keeps d1')
          have z0 : g0 < wr.heap.size := World.block_lt_of_cell? _ _ K0.out
          have z1 : g1 < wr.heap.size := World.block_lt_of_cell? _ _ K2.out
          have hk0 : (0 : Int) ≤ (k : Int) := by omega
          have hk1 : (k : Int) < (nb : Int) := by omega
          clear d0' d1' hcd
          cases hit : itB a b c d
          · have HI := Lib.hid hit
            have HF := Lib.hid (it_no hit)
            rw [show partL a b c d = [] by simp [partL, hit], List.append_nil] at hst
            have HS := Lib.hid hst
            clear hit hst
            go_wp2_with fail
            go_region_held3 (fun w' => w'.cell? ⟨g0, o0 + i * 2, none⟩ = some (.int .i64 a) ∧ w'.cell? ⟨g0, o0 + i * 2 + 1, none⟩ = some (.int .i64 b) ∧ w'.cell? ⟨g1, o1 + k * 2, none⟩ = some (.int .i64 c) ∧ w'.cell? ⟨g1, o1 + k * 2 + 1, none⟩ = some (.int .i64 d)) (first | exact ⟨K0.out, K1.out, K2.out, K3.out⟩ | exact ⟨kept ((Grown.refl wr).alloc _ _) K0.out, kept ((Grown.refl wr).alloc _ _) K1.out, kept ((Grown.refl wr).alloc _ _) K2.out, kept ((Grown.refl wr).alloc _ _) K3.out⟩ | exact ⟨setfar (Nat.ne_of_gt z0) f0, setfar (Nat.ne_of_gt z0) f1, setfar (Nat.ne_of_gt z1) f2, setfar (Nat.ne_of_gt z1) f3⟩ | go_keep)
              (first | (go_at_call 33; refine (ris_at a b c d 0 0 false _ HI.out HF.out.1 HF.out.2).mono ?_; rintro e w3 ⟨rfl, hg3'⟩; first | (have hg3 : Grown wr w3 := hg3'; have f0 := kept hg3 K0.out; have f1 := kept hg3 K1.out; have f2 := kept hg3 K2.out; have f3 := kept hg3 K3.out) | (have hg3 : Grown wr w3 := grown_trans ((Grown.refl wr).alloc _ _) hg3'; obtain ⟨n0, n1, n2, n3, n4⟩ := boxN (wr := wr) (x := .int .i64 0) (y := .int .i64 0) (t := 30) hg3'; have f0 := kept hg3 K0.out; have f1 := kept hg3 K1.out; have f2 := kept hg3 K2.out; have f3 := kept hg3 K3.out)))
            all_goals
              first
                | (have hbx := bx_set (wr := wr) (w3 := w3) (p := .int .i64 0) (q := .int .i64 0) (x := .int .i64 0) (y := .int .i64 0) (t := 30) hg3'; generalize ((w3.setCell ⟨wr.heap.size, 0, none⟩ (Value.int IntKind.i64 0)).setCell ⟨wr.heap.size, 1, none⟩ (Value.int IntKind.i64 0)) = W3 at hbx ⊢)
                | (have hbx := bx_alloc (wr := wr) (w3 := w3) (x := .int .i64 0) (y := .int .i64 0) (t := 30) hg3; generalize (w3.alloc (Obj.cells #[Value.int IntKind.i64 0, Value.int IntKind.i64 0] 30)) = W3 at hbx ⊢)
              obtain ⟨hX, b0, b1⟩ := hbx
              have hO3 := hO.ext hX
              clear hO hg3 hg3'
              go_wp2_with fail
              go_roundw
              case rel => exact ⟨k + 1, r, by omega, by go_num, HS, hO3⟩
              case measure => simp [intOf]; omega
          · have HI := Lib.hid hit
            obtain ⟨x0, hx0⟩ : ∃ z, z = itF a b c d := ⟨_, rfl⟩
            obtain ⟨y0, hy0⟩ : ∃ z, z = itT a b c d := ⟨_, rfl⟩
            have HF := Lib.hid (And.intro hx0.symm hy0.symm)
            rw [show partL a b c d = [(x0, y0)] by simp [partL, hit, hx0, hy0]] at hst
            have HS := Lib.hid hst
            clear hit hst hx0 hy0
            go_wp2_with fail
            go_region_held3 (fun w' => w'.cell? ⟨g0, o0 + i * 2, none⟩ = some (.int .i64 a) ∧ w'.cell? ⟨g0, o0 + i * 2 + 1, none⟩ = some (.int .i64 b) ∧ w'.cell? ⟨g1, o1 + k * 2, none⟩ = some (.int .i64 c) ∧ w'.cell? ⟨g1, o1 + k * 2 + 1, none⟩ = some (.int .i64 d)) (first | exact ⟨K0.out, K1.out, K2.out, K3.out⟩ | exact ⟨kept ((Grown.refl wr).alloc _ _) K0.out, kept ((Grown.refl wr).alloc _ _) K1.out, kept ((Grown.refl wr).alloc _ _) K2.out, kept ((Grown.refl wr).alloc _ _) K3.out⟩ | exact ⟨setfar (Nat.ne_of_gt z0) f0, setfar (Nat.ne_of_gt z0) f1, setfar (Nat.ne_of_gt z1) f2, setfar (Nat.ne_of_gt z1) f3⟩ | go_keep)
              (first | (go_at_call 33; refine (ris_at a b c d x0 y0 true _ HI.out HF.out.1 HF.out.2).mono ?_; rintro e w3 ⟨rfl, hg3'⟩; first | (have hg3 : Grown wr w3 := hg3'; have f0 := kept hg3 K0.out; have f1 := kept hg3 K1.out; have f2 := kept hg3 K2.out; have f3 := kept hg3 K3.out) | (have hg3 : Grown wr w3 := grown_trans ((Grown.refl wr).alloc _ _) hg3'; obtain ⟨n0, n1, n2, n3, n4⟩ := boxN (wr := wr) (x := .int .i64 0) (y := .int .i64 0) (t := 30) hg3'; have f0 := kept hg3 K0.out; have f1 := kept hg3 K1.out; have f2 := kept hg3 K2.out; have f3 := kept hg3 K3.out)))
            all_goals
              first
                | (have hbx := bx_set (wr := wr) (w3 := w3) (p := .int .i64 0) (q := .int .i64 0) (x := .int .i64 x0) (y := .int .i64 y0) (t := 30) hg3'; generalize ((w3.setCell ⟨wr.heap.size, 0, none⟩ (Value.int IntKind.i64 x0)).setCell ⟨wr.heap.size, 1, none⟩ (Value.int IntKind.i64 y0)) = W3 at hbx ⊢)
                | (have hbx := bx_alloc (wr := wr) (w3 := w3) (x := .int .i64 x0) (y := .int .i64 y0) (t := 30) hg3; generalize (w3.alloc (Obj.cells #[Value.int IntKind.i64 x0, Value.int IntKind.i64 y0] 30)) = W3 at hbx ⊢)
              obtain ⟨hX, b0, b1⟩ := hbx
              have hO3 := hO.ext hX
              clear hO hg3 hg3'
              go_wp2_with (at_builtin; refine appR rfl _ _ rfl w2 _ r rfl (hO3.ext ((Ext.refl _).alloc _ _)) _ [(x0, y0)] rfl (rd_lit1 _ x0 y0 _ _ rfl) (by simp; omega) ?_; intro v' w' hO' hg')
              go_roundw
              case rel => exact ⟨k + 1, r ++ [(x0, y0)], by omega, by go_num, HS, hO'⟩
              case measure => simp [intOf]; omega
        · have hkn : k = B.length := by have := HNB.out; omega
          have HD := Lib.hid ((show KInv A B i a b B.length r from hkn ▸ HK.out).done hil HAB.out)
          clear hkn
          go_wp2_with fail
          go_roundw
          case rel => exact ⟨i + 1, r, by omega, by go_num, HD, hO⟩
          case measure => simp [intOf]; omega
    · have hin : i = A.length := by have := HNA.out; omega
      have HD := Lib.hid ((show OInv A B A.length r0 from hin ▸ HO.out).done)
      clear hin
      go_wp2_with fail
      go_ret
      exact ⟨_, r0, rfl, HD.out.1, fun t => by rw [HD.out.2, andB, HMA.out, HMB.out], hO0.zero, HE.out.trans hO0.2⟩
end Go.Proofs.Ytckknhocmbhmhaa
