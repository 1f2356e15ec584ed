/- The walk of the law SetCanonical: it returns true at every input. -/
import Derived.Test.YtckknhocmbhmhaaLs1
import Derived.Test.YtckknhocmbhmhaaCat
import Derived.Test.YtckknhocmbhmhaaIsx
namespace Go.Proofs.Ytckknhocmbhmhaa
open Go.ChangeShapes Go.WideShapes Go.ChangeAt Go.RowKit

/-- the first k periods of the row, turned -/
def rotL (a : List (Int × Int)) (K k : Nat) : List (Int × Int) := (List.range k).map fun i => a.getD ((i + K) % a.length) (0, 0)
theorem rotL_len (a : List (Int × Int)) (K k : Nat) : (rotL a K k).length = k := by simp [rotL]
theorem rotL_succ (a : List (Int × Int)) (K k : Nat) : rotL a K (k + 1) = rotL a K k ++ [a.getD ((k + K) % a.length) (0, 0)] := by simp [rotL, List.range_succ]
theorem getD_at {a : List (Int × Int)} {i : Nat} (h : i < a.length) : a.getD i (0, 0) = a[i] := by simp [List.getD, List.getElem?_eq_getElem h]
theorem rotL_mem (a : List (Int × Int)) (K : Nat) (t : Int) : memB (rotL a K a.length) t = memB a t := by
  rw [Bool.eq_iff_iff, memB_iff, memB_iff]
  constructor
  · rintro ⟨p, hp, r⟩
    refine ⟨p, ?_, r⟩
    simp only [rotL, List.mem_map, List.mem_range] at hp
    obtain ⟨i, hi, rfl⟩ := hp
    have hlt : (i + K) % a.length < a.length := Nat.mod_lt _ (by omega)
    rw [getD_at hlt]
    exact List.getElem_mem _
  · rintro ⟨p, hp, r⟩
    refine ⟨p, ?_, r⟩
    obtain ⟨j, hj, rfl⟩ := List.getElem_of_mem hp
    simp only [rotL, List.mem_map, List.mem_range]
    have hn : 0 < a.length := by omega
    refine ⟨(j + (a.length - K % a.length)) % a.length, Nat.mod_lt _ hn, ?_⟩
    have hK := Nat.div_add_mod K a.length
    have hm := Nat.mod_lt K hn
    have e : ((j + (a.length - K % a.length)) % a.length + K) % a.length = j := by
      rw [Nat.mod_add_mod]
      have : j + (a.length - K % a.length) + K = j + a.length * (1 + K / a.length) := by
        rw [Nat.mul_add, Nat.mul_one]; omega
      rw [this, Nat.add_mul_mod_self_left, Nat.mod_eq_of_lt hj]
    rw [e, getD_at hj]
theorem wf_u8 {a : Int} (h : (Lit.int .u8 a).wf = true) : 0 ≤ a ∧ a ≤ 255 := by
  have h1 : IntKind.u8.min = 0 := by decide
  have h2 : IntKind.u8.max = 255 := by decide
  simp [Lit.wf] at h
  omega
theorem isn_at (l : List (Int × Int)) (v : Value) (w : World) (h : Rd w v l) (hN : NF l) : Calls Try.prog 11 #[v] w fun e w' => e = .returned (.bool true) ∧ Ext w w' := by
  have := isn_per l v w h
  rw [hN.check] at this
  exact this.mono fun _ _ ⟨x, y⟩ => ⟨x, ext_of_grown y⟩
set_option maxHeartbeats 8000000 in
theorem law_SetCanonical (a b : List (Int × Int)) (va vb : Value) (K : Int) (w : World) (ha : Rd w va a) (hb : Rd w vb b) (k0 : 0 ≤ K) (k1 : K ≤ 255) : Calls Try.prog 6 #[va, vb, .int .u8 K] w fun e w' => e = .returned (.bool true) ∧ Ext w w' := by
  obtain ⟨Kn, rfl⟩ : ∃ n : Nat, K = n := ⟨K.toNat, by omega⟩
  have HA := Lib.hid ha
  have HB := Lib.hid hb
  have HA0 := Lib.hid ha
  obtain ⟨ad, cap, rfl, _, _, _, hx⟩ := ha
  have HX := Lib.hid hx
  clear hb hx
  by_cases hl : a.length ≤ 40 ∧ b.length ≤ 40
  · obtain ⟨la, lb⟩ := hl
    obtain ⟨n, hn⟩ : ∃ n, n = a.length := ⟨_, rfl⟩
    have HN := Lib.hid hn
    rw [← hn] at HA HA0 ⊢
    have la' : n ≤ 40 := by omega
    clear hn
    go_enter Try.func6, Try.ntmps6
    go_wp2_with fail
    refine (few_yes a b _ _ _ HA.out HB.out la lb).mono ?_
    rintro e w0 ⟨rfl, rfl⟩
    go_wp2_with fail
    refine (norm_per a _ _ HA.out (by omega)).mono ?_
    rintro e w4 ⟨v4, l4, rfl, n4, m4, o4, e4⟩
    have FN := Lib.hid (And.intro n4 m4)
    have RN := Lib.hid (rd_of_owns o4)
    clear n4 m4 o4
    go_wp2_with fail
    go_loopw [8, 19] (fun u i wr => ∃ k : Nat, k ≤ n ∧ i = .int .i64 k ∧ Own w4 wr u (rotL a Kn k)) (fun _ i _ => n - (intOf i).toNat)
    case atStart => exact ⟨0, by omega, rfl, Own.nil _ _ (Ext.refl _)⟩
    case round =>
      obtain ⟨k, hk, rfl, hO⟩ := hrel
      by_cases hlt : k < n
      · have hr : (k + Kn) % n < n := Nat.mod_lt _ (by omega)
        have hq : (k + Kn) % n < a.length := by rw [← HN.out]; exact hr
        obtain ⟨g, o, rfl, c0', c1'⟩ := HX.out ((k + Kn) % n) hq
        obtain ⟨x, y, hxy⟩ : ∃ x y, a[(k + Kn) % n] = (x, y) := ⟨_, _, rfl⟩
        have HP := Lib.hid (show rotL a Kn (k + 1) = rotL a Kn k ++ [(x, y)] by
          rw [rotL_succ, ← hxy, show (k + Kn) % a.length = (k + Kn) % n by rw [HN.out], getD_at hq])
        rw [hxy] at c0' c1'
        simp only at c0' c1'
        have c0 := hO.2.keeps (e4.keeps c0')
        have c1 := hO.2.keeps (e4.keeps c1')
        have hi1 : (k : Int) < (n : Int) := by omega
        have hmod : ((k : Int) + (Kn : Int)).tmod (n : Int) = (((k + Kn) % n : Nat) : Int) := by
          rw [Int.tmod_eq_emod_of_nonneg (by omega), Int.natCast_emod, Int.natCast_add]
        have hln := rotL_len a Kn k
        clear c0' c1' hxy hq
        generalize (k + Kn) % n = q at hr hmod c0 c1
        have hq0 : (0 : Int) ≤ (q : Int) := by omega
        have hq1 : (q : Int) < (n : Int) := by omega
        have hn0 : (n : Int) ≠ 0 := by omega
        have HLN := Lib.hid hln
        clear hln
        go_wp2_with (at_builtin; refine appR rfl _ _ rfl w4 _ (rotL a Kn k) rfl (hO.ext ((Ext.refl _).alloc _ _)) _ [(x, y)] rfl (rd_lit1 _ x y _ _ rfl) (by rw [HLN.out]; simp; omega) ?_; intro v' w' hO' hg')
        go_roundw
        case rel => exact ⟨k + 1, by omega, by go_num, by rw [HP.out]; exact hO'⟩
        case measure => simp [intOf]; omega
      · have hkn : k = n := by omega
        have HT := Lib.hid (show ∀ t, memB (rotL a Kn n) t = memB a t from fun t => by rw [HN.out]; exact rotL_mem a Kn t)
        rw [hkn] at hO
        have e5 : Ext w wr := e4.trans hO.2
        have RT := Lib.hid hO.rd
        have RN := Lib.hid (RN.out.ext hO.2)
        clear hkn hO
        obtain ⟨w5, rfl⟩ : ∃ z, z = wr := ⟨_, rfl⟩
        go_wp2_with fail
        refine (awake_law _).mono ?_
        rintro e w6 ⟨rfl, e6'⟩
        have RN := Lib.hid (RN.out.ext e6')
        have RT := Lib.hid (RT.out.ext e6')
        have e6 : Ext w w6 := e5.trans e6'
        clear e6'
        go_wp2_with fail
        refine (isn_at _ _ _ RN.out FN.out.1).mono ?_
        rintro e w7 ⟨rfl, e7'⟩
        have RN := Lib.hid (RN.out.ext e7')
        have RT := Lib.hid (RT.out.ext e7')
        have e7 : Ext w w7 := e6.trans e7'
        clear e7'
        go_wp2_with fail
        refine (norm_per _ _ _ RN.out (Nat.le_trans FN.out.1.len (by omega))).mono ?_
        rintro e w8 ⟨v8, l8, rfl, n8, m8, o8, e8'⟩
        have RN := Lib.hid (RN.out.ext e8')
        have RT := Lib.hid (RT.out.ext e8')
        have e8 : Ext w w8 := e7.trans e8'
        have FP := Lib.hid (And.intro n8 m8)
        have RP := Lib.hid (rd_of_owns o8)
        clear n8 m8 o8 e8'
        go_wp2_with fail
        refine (same_set FP.out.1 FN.out.1 (fun t => by rw [FP.out.2]) RP.out RN.out).mono ?_
        rintro e w9 ⟨rfl, e9'⟩
        have RN := Lib.hid (RN.out.ext e9')
        have RT := Lib.hid (RT.out.ext e9')
        have RP := Lib.hid (RP.out.ext e9')
        have e9 : Ext w w9 := e8.trans e9'
        clear e9'
        go_wp2_with fail
        refine (norm_per _ _ _ RT.out (by rw [rotL_len]; omega)).mono ?_
        rintro e w10 ⟨v10, l10, rfl, n10, m10, o10, e10'⟩
        have RN := Lib.hid (RN.out.ext e10')
        have RT := Lib.hid (RT.out.ext e10')
        have RP := Lib.hid (RP.out.ext e10')
        have e10 : Ext w w10 := e9.trans e10'
        have FQ := Lib.hid (And.intro n10 m10)
        have RQ := Lib.hid (rd_of_owns o10)
        clear n10 m10 o10 e10'
        go_wp2_with fail
        refine (same_set FQ.out.1 FN.out.1 (fun t => by rw [FQ.out.2, FN.out.2, HT.out]) RQ.out RN.out).mono ?_
        rintro e w11 ⟨rfl, e11'⟩
        have RN := Lib.hid (RN.out.ext e11')
        have RT := Lib.hid (RT.out.ext e11')
        have RP := Lib.hid (RP.out.ext e11')
        have RQ := Lib.hid (RQ.out.ext e11')
        have e11 : Ext w w11 := e10.trans e11'
        clear e11'
        go_wp2_with fail
        refine (union_per a b _ _ _ (HA.out.ext e11) (HB.out.ext e11) (by omega)).mono ?_
        rintro e w12 ⟨v12, l12, rfl, n12, m12, o12, e12'⟩
        have RN := Lib.hid (RN.out.ext e12')
        have RT := Lib.hid (RT.out.ext e12')
        have RP := Lib.hid (RP.out.ext e12')
        have RQ := Lib.hid (RQ.out.ext e12')
        have e12 : Ext w w12 := e11.trans e12'
        have FU := Lib.hid (And.intro n12 m12)
        have RU := Lib.hid (rd_of_owns o12)
        clear n12 m12 o12 e12'
        go_wp2_with fail
        refine (isn_at _ _ _ RU.out FU.out.1).mono ?_
        rintro e w13 ⟨rfl, e13'⟩
        have RN := Lib.hid (RN.out.ext e13')
        have RT := Lib.hid (RT.out.ext e13')
        have RP := Lib.hid (RP.out.ext e13')
        have RQ := Lib.hid (RQ.out.ext e13')
        have RU := Lib.hid (RU.out.ext e13')
        have e13 : Ext w w13 := e12.trans e13'
        clear e13'
        go_wp2_with fail
        refine (inter_per a b _ _ _ (HA.out.ext e13) (HB.out.ext e13) (by omega) (by omega)).mono ?_
        rintro e w14 ⟨v14, l14, rfl, n14, m14, o14, e14'⟩
        have RN := Lib.hid (RN.out.ext e14')
        have RT := Lib.hid (RT.out.ext e14')
        have RP := Lib.hid (RP.out.ext e14')
        have RQ := Lib.hid (RQ.out.ext e14')
        have RU := Lib.hid (RU.out.ext e14')
        have e14 : Ext w w14 := e13.trans e14'
        have FI := Lib.hid (And.intro n14 m14)
        have RI := Lib.hid (rd_of_owns o14)
        clear n14 m14 o14 e14'
        go_wp2_with fail
        refine (isn_at _ _ _ RI.out FI.out.1).mono ?_
        rintro e w15 ⟨rfl, e15'⟩
        have RN := Lib.hid (RN.out.ext e15')
        have RT := Lib.hid (RT.out.ext e15')
        have RP := Lib.hid (RP.out.ext e15')
        have RQ := Lib.hid (RQ.out.ext e15')
        have RU := Lib.hid (RU.out.ext e15')
        have RI := Lib.hid (RI.out.ext e15')
        have e15 : Ext w w15 := e14.trans e15'
        clear e15'
        go_wp2_with fail
        refine (subt_per a b _ _ _ (HA.out.ext e15) (HB.out.ext e15) (by omega) (by omega)).mono ?_
        rintro e w16 ⟨v16, l16, rfl, n16, m16, o16, e16'⟩
        have RN := Lib.hid (RN.out.ext e16')
        have RT := Lib.hid (RT.out.ext e16')
        have RP := Lib.hid (RP.out.ext e16')
        have RQ := Lib.hid (RQ.out.ext e16')
        have RU := Lib.hid (RU.out.ext e16')
        have RI := Lib.hid (RI.out.ext e16')
        have e16 : Ext w w16 := e15.trans e16'
        have FD := Lib.hid (And.intro n16 m16)
        have RD := Lib.hid (rd_of_owns o16)
        clear n16 m16 o16 e16'
        go_wp2_with fail
        refine (isn_at _ _ _ RD.out FD.out.1).mono ?_
        rintro e w17 ⟨rfl, e17'⟩
        have RN := Lib.hid (RN.out.ext e17')
        have RT := Lib.hid (RT.out.ext e17')
        have RP := Lib.hid (RP.out.ext e17')
        have RQ := Lib.hid (RQ.out.ext e17')
        have RU := Lib.hid (RU.out.ext e17')
        have RI := Lib.hid (RI.out.ext e17')
        have RD := Lib.hid (RD.out.ext e17')
        have e17 : Ext w w17 := e16.trans e17'
        clear e17'
        go_wp2_with fail
        go_ret
        exact ⟨rfl, e17⟩
  · go_enter Try.func6, Try.ntmps6
    go_wp2_with fail
    refine (few_no a b _ _ _ HA.out HB.out hl).mono ?_
    rintro e w0 ⟨rfl, rfl⟩
    go_wp2_with fail
    refine (awake_law _).mono ?_
    rintro e w1 ⟨rfl, e1⟩
    go_wp2_with fail
    go_ret
    exact ⟨rfl, e1⟩
end Go.Proofs.Ytckknhocmbhmhaa
