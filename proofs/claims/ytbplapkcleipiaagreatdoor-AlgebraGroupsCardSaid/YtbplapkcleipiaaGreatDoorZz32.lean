/- Sums of 128 bits, of the program. -/
import Derived.StillTailTactics
import Derived.Test.YtbplapkcleipiaaGreatDoorZz06
import Derived.Test.YtbplapkcleipiaaGreatDoorZz27
import Derived.Test.YtbplapkcleipiaaGreatDoorZz31
namespace Go.Proofs.YtbplapkcleipiaaGreatDoor
open Go.ChangeShapes Go.WideShapes Go.ChangeAt Go.RowKit

theorem Ext.drewN9 {w X : World} (h : Ext w X) (n : Nat) : Ext w (X.drewN n) := ⟨h.1, h.2.1, h.2.2⟩
def loW (T : Int) : Int := T % 18446744073709551616
def hiW (T : Int) : Int := (T / 18446744073709551616) % 18446744073709551616
abbrev wV (T : Int) : Value := .agg #[.int .u64 (hiW T), .int .u64 (loW T)]
theorem add_eq (x y c : Int) (hx : 0 ≤ x) (hy : 0 ≤ y) (hc : c = 0 ∨ c = 1) (W : World) : (callFunc 162 #[.int .u64 x, .int .u64 y, .int .u64 c]).run Tryz.prog W = .ok (.value (.tuple #[.int .u64 ((x + y + c) % 18446744073709551616), .int .u64 ((x + y + c) / 18446744073709551616)])) W := by
  obtain ⟨a, rfl⟩ : ∃ a : Nat, x = a := ⟨x.toNat, by omega⟩
  obtain ⟨b, rfl⟩ : ∃ b : Nat, y = b := ⟨y.toNat, by omega⟩
  obtain ⟨d, rfl⟩ : ∃ d : Nat, c = d := ⟨c.toNat, by omega⟩
  have h := Any7.bits_Add64 Tryz.add64 a b d (by omega) W
  rw [show ((a : Int) + b + d) % 18446744073709551616 = (((a + b + d) % 18446744073709551616 : Nat) : Int) by omega, show ((a : Int) + b + d) / 18446744073709551616 = (((a + b + d) / 18446744073709551616 : Nat) : Int) by omega]
  exact h
theorem u64_wrap (n : Int) : IntKind.u64.wrap n = n % 18446744073709551616 := by simp [IntKind.wrap, IntKind.bits, IntKind.signed]
theorem lo_plus (T n : Int) : loW (T + n) = (loW T + n % 18446744073709551616 + 0) % 18446744073709551616 := by unfold loW; omega
theorem hi_plus (T n : Int) (h0 : -9223372036854775808 ≤ n) (h1 : n ≤ 9223372036854775807) :
    hiW (T + n) = (hiW T + (n / 9223372036854775808) % 18446744073709551616 + (loW T + n % 18446744073709551616 + 0) / 18446744073709551616) % 18446744073709551616 := by
  unfold hiW loW
  have e : T = 18446744073709551616 * (T / 18446744073709551616) + T % 18446744073709551616 := by omega
  have b0 : 0 ≤ T % 18446744073709551616 := by omega
  have b1 : T % 18446744073709551616 < 18446744073709551616 := by omega
  generalize T / 18446744073709551616 = a at *
  generalize T % 18446744073709551616 = b at *
  subst e
  have e2 : (18446744073709551616 * a + b + n) / 18446744073709551616 = a + (b + n) / 18446744073709551616 := by omega
  rw [e2]
  rcases Int.lt_or_le n 0 with hn | hn
  · have e3 : n / 9223372036854775808 = -1 := by omega
    have e4 : n % 18446744073709551616 = n + 18446744073709551616 := by omega
    rw [e3, e4]
    have e5 : (b + (n + 18446744073709551616) + 0) / 18446744073709551616 = (b + n) / 18446744073709551616 + 1 := by omega
    rw [e5]
    generalize (b + n) / 18446744073709551616 = q
    omega
  · have e3 : n / 9223372036854775808 = 0 := by omega
    have e4 : n % 18446744073709551616 = n := by omega
    rw [e3, e4]
    have e5 : (b + n + 0) / 18446744073709551616 = (b + n) / 18446744073709551616 := by omega
    rw [e5]
    generalize (b + n) / 18446744073709551616 = q
    omega
set_option maxHeartbeats 2000000 in
set_option maxRecDepth 100000 in
theorem plus_prg (T n : Int) (h0 : -9223372036854775808 ≤ n) (h1 : n ≤ 9223372036854775807) (w : World) : Calls Tryz.prog 147 #[wV T, .int .i64 n] w fun e w' => e = .returned (wV (T + n)) ∧ Ext w w' := by
  have e1 := lo_plus T n
  have e2 := hi_plus T n h0 h1
  have a1 := add_eq (loW T) (n % 18446744073709551616) 0 (by unfold loW; omega) (by omega) (.inl rfl)
  have hc : (loW T + n % 18446744073709551616 + 0) / 18446744073709551616 = 0 ∨ (loW T + n % 18446744073709551616 + 0) / 18446744073709551616 = 1 := by unfold loW; omega
  have a2 := add_eq (hiW T) ((n / 9223372036854775808) % 18446744073709551616) ((loW T + n % 18446744073709551616 + 0) / 18446744073709551616) (by unfold hiW; omega) (by omega) hc
  rw [← e1] at a1
  rw [← e2] at a2
  generalize (loW T + n % 18446744073709551616 + 0) / 18446744073709551616 = c at *
  generalize (hiW T + (n / 9223372036854775808) % 18446744073709551616 + c) / 18446744073709551616 = d at *
  rw [← u64_wrap] at a1 a2
  unfold wV
  generalize hiW (T + n) = h' at *
  generalize loW (T + n) = l' at *
  generalize hiW T = h at *
  generalize loW T = l at *
  clear e1 e2 hc h0 h1
  go_enter Tryz.func147, Tryz.ntmps147
  go_wp2_with fail
  exact bodyPost_ret (v := .agg #[.int .u64 h', .int .u64 l']) (by simp [results, Tryz.results147, go_sem]) rfl ⟨rfl, by first | exact ((Ext.refl w).alloc _ _).alloc _ _ | exact ((((Ext.refl w).alloc _ _).alloc _ _).setNew _ _ (Nat.le_succ _) _).setNew _ _ (Nat.le_succ _) _⟩
theorem nar_fits (T : Int) (h0 : -1267650600228229401496703205376 ≤ T) (h1 : T ≤ 1267650600228229401496703205376) : (hiW T == (wrap64 (loW T) / 9223372036854775808) % 18446744073709551616) = fitB T ∧ (fitB T = true → wrap64 (loW T) = T) := by
  unfold hiW loW wrap64 fitB
  have e : T = 18446744073709551616 * (T / 18446744073709551616) + T % 18446744073709551616 := by omega
  have b0 : 0 ≤ T % 18446744073709551616 := by omega
  have b1 : T % 18446744073709551616 < 18446744073709551616 := by omega
  generalize T / 18446744073709551616 = a at *
  generalize T % 18446744073709551616 = b at *
  subst e
  rcases Int.lt_or_le b 9223372036854775808 with hb | hb
  · have e1 : (b + 9223372036854775808) % 18446744073709551616 - 9223372036854775808 = b := by omega
    have e2 : b / 9223372036854775808 = 0 := by omega
    rw [e1, e2]
    constructor
    · rw [Bool.eq_iff_iff]; simp only [beq_iff_eq, decide_eq_true_eq]; omega
    · intro h; simp only [decide_eq_true_eq] at h; omega
  · have e1 : (b + 9223372036854775808) % 18446744073709551616 - 9223372036854775808 = b - 18446744073709551616 := by omega
    have e2 : (b - 18446744073709551616) / 9223372036854775808 = -1 := by omega
    rw [e1, e2]
    constructor
    · rw [Bool.eq_iff_iff]; simp only [beq_iff_eq, decide_eq_true_eq]; omega
    · intro h; simp only [decide_eq_true_eq] at h; omega
set_option maxRecDepth 100000 in
theorem narrow_prg (T : Int) (h0 : -1267650600228229401496703205376 ≤ T) (h1 : T ≤ 1267650600228229401496703205376) (w : World) : Calls Tryz.prog 148 #[wV T] w fun e w' => ∃ n, e = .returned (.tuple #[.int .i64 n, .bool (fitB T)]) ∧ (fitB T = true → n = T) ∧ Ext w w' := by
  obtain ⟨e1, e2⟩ := nar_fits T h0 h1
  unfold wV
  generalize fitB T = ft at *
  generalize hiW T = h at *
  generalize loW T = l at *
  rw [← u64_wrap] at e1
  have HE1 := Lib.hid e1
  have HE2 := Lib.hid e2
  clear e1 e2 h0 h1
  go_enter Tryz.func148, Tryz.ntmps148
  go_wp2_with fail
  go_quiet (fail)
  go_wp2_with fail
  go_ret2
  rw [HE1.out]
  exact ⟨_, rfl, HE2.out, ((Ext.refl w).alloc _ _).drewN9 _⟩
end Go.Proofs.YtbplapkcleipiaaGreatDoor
/- The sum of values, of the program. -/
namespace Go.Proofs.YtbplapkcleipiaaGreatDoor
open Go.ChangeShapes Go.WideShapes Go.ChangeAt Go.RowKit

theorem int_step (l : List V) (k : Nat) (h : k < l.length) : intL (l.take (k + 1)) = intL (l.take k) ++ if l[k].k = 1 then [l[k].n] else [] := by
  unfold intL
  rw [List.take_succ_eq_append_getElem h, List.filter_append, List.map_append, List.filter_cons]
  by_cases hk : l[k].k = 1 <;> simp [hk]
/-- numbers within 64 bits -/
def OkV (l : List V) : Prop := ∀ v ∈ l, okN v.n
def SuR (W : World) (l : List V) (tb r : Nat) (f i : Value) (wr : World) : Prop := ∃ k : Nat, k ≤ l.length ∧ i = .int .i64 k ∧ f = .bool (decide ((intL (l.take k)).length ≠ 0)) ∧ Ext W wr ∧ Bxn tb [.int .u64 (hiW (intL (l.take k)).sum), .int .u64 (loW (intL (l.take k)).sum)] wr ∧ Bxn r [.int .i64 0, .int .i64 0, sv []] wr ∧
  -9223372036854775808 * (k : Int) ≤ (intL (l.take k)).sum ∧ (intL (l.take k)).sum ≤ 9223372036854775808 * (k : Int)
set_option maxHeartbeats 4000000 in
set_option maxRecDepth 100000 in
theorem sum_prg (l : List V) (v : Value) (w : World) (h : RdG w v l) (ho : OkV l) (hll : l.length ≤ 100000000) :
    Calls Tryz.prog 134 #[v] w fun e w' => e = .returned (vv (sumL l)) ∧ Ext w w' := by
  obtain ⟨ad, cap, rfl, h1, h2⟩ := h.shape
  have H := Lib.hid h
  have HO := Lib.hid ho
  have HLL := Lib.hid hll
  obtain ⟨t, ht⟩ : ∃ t, t = l.length := ⟨_, rfl⟩
  have HT := Lib.hid ht
  rw [← ht] at h1 H ⊢
  clear h ht ho hll
  unfold maxLen at h2
  have hz : hiW 0 = 0 ∧ loW 0 = 0 := by decide
  have HB := Lib.hid (show Bxn (w.heap.size + 1) [.int .u64 (hiW (intL (l.take 0)).sum), .int .u64 (loW (intL (l.take 0)).sum)] ((w.alloc (.cells #[.int .i64 0, .int .i64 0, sv []] 58)).alloc (.cells #[.int .u64 0, .int .u64 0] 206)) by
    have e : (intL (l.take 0)).sum = 0 := rfl
    rw [e, hz.1, hz.2, ← alsz w]; exact Bxn.new _ _ _)
  have HBr := Lib.hid (show Bxn w.heap.size [.int .i64 0, .int .i64 0, sv []] ((w.alloc (.cells #[.int .i64 0, .int .i64 0, sv []] 58)).alloc (.cells #[.int .u64 0, .int .u64 0] 206)) from (Bxn.new w _ _).ext ((Ext.refl _).alloc _ _))
  clear hz
  go_enter Tryz.func134, Tryz.ntmps134
  go_wp2_with fail
  go_loopw [4, 11] (SuR w l (w.heap.size + 1) w.heap.size) (fun _ i _ => t - (intOf i).toNat)
  case atStart => exact ⟨0, Nat.zero_le _, rfl, rfl, ((Ext.refl _).alloc _ _).alloc _ _, HB.out, HBr.out, by simp [intL], by simp [intL]⟩
  case round =>
    obtain ⟨k, hk, rfl, rfl, hE, hB, hR, hs0, hs1⟩ := hrel
    have hkt : k ≤ t := by rw [HT.out]; exact hk
    have b0 := (hB.2 0 _ rfl).1
    have b1 := (hB.2 1 _ rfl).1
    have hsb := hB.1
    have HE := Lib.hid hE
    have HBk := Lib.hid hB
    have HRk := Lib.hid hR
    have HS0 := Lib.hid hs0
    have HS1 := Lib.hid hs1
    by_cases hlt : k < t
    · have hlt' : k < l.length := by rw [← HT.out]; exact hlt
      obtain ⟨g', o', rfl, d0', d1', d2'⟩ := rd_V H.out k hlt'
      have d0 := hE.keeps d0'
      have d1 := hE.keeps d1'
      have d2 := hE.keeps d2'
      have hst := int_step l k hlt'
      have hok := HO.out l[k] (List.getElem_mem _)
      clear d0' d1' d2' hE hB hR hs0 hs1
      generalize l[k] = y at *
      generalize intL (l.take k) = pre at *
      obtain ⟨zk, zn, zs⟩ := y
      simp only at d0 d1 d2 hst hok
      have HL := Lib.hid hlt'
      have hgs := World.block_lt_of_cell? _ _ d0
      by_cases hz : zk = 1
      · subst hz
        rw [if_pos rfl] at hst
        have HST := Lib.hid hst
        have HOK := Lib.hid hok
        have HP := Lib.hid (fun w' => plus_prg pre.sum zn hok.1 hok.2 w')
        have hsum : (pre ++ [zn]).sum = pre.sum + zn := by simp
        have HSUM := Lib.hid hsum
        unfold wV at HP
        have HBa := Lib.hid (HBk.out.ext ((Ext.refl wr).alloc #[.int .i64 1, .int .i64 zn, sv zs] 58))
        have a0 := (HBa.out.2 0 _ rfl).1
        have a1 := (HBa.out.2 1 _ rfl).1
        generalize hiW pre.sum = ph at *
        generalize loW pre.sum = pl at *
        obtain ⟨qh, hqh⟩ : ∃ qh, qh = hiW (pre.sum + zn) := ⟨_, rfl⟩
        obtain ⟨ql, hql⟩ : ∃ ql, ql = loW (pre.sum + zn) := ⟨_, rfl⟩
        rw [← hqh, ← hql] at HP
        have HQH := Lib.hid hqh
        have HQL := Lib.hid hql
        clear hst hok hsum hqh hql
        go_wp2_with fail
        refine (HP.out _).mono ?_; rintro e w3 ⟨rfl, hE3⟩
        have HE3 := Lib.hid (((Ext.refl wr).alloc #[.int .i64 1, .int .i64 zn, sv zs] 58).trans hE3)
        have g0 := (((HBk.out).ext HE3.out).2 0 _ rfl).1
        have g1 := (((HBk.out).ext HE3.out).2 1 _ rfl).1
        have q0 := (((HBk.out).ext HE3.out).2 0 _ rfl).2
        have q1 := (((HBk.out).ext HE3.out).2 1 _ rfl).2
        have hs3 := (HBk.out.ext HE3.out).1
        clear hE3
        go_wp2_with fail
        go_roundw
        case rel =>
          refine ⟨k + 1, HL.out, by go_num, by rw [HST.out]; simp, ?_, ?_, ?_, ?_, ?_⟩
          · exact ((HE.out.trans HE3.out).setNew _ _ (by omega) _).setNew _ _ (by omega) _
          · rw [HST.out, HSUM.out, ← HQH.out, ← HQL.out]; exact ((HBk.out.ext HE3.out).set 0 _).set 1 _
          · exact ((HRk.out.ext HE3.out).grw (set_grw _ _ _ _) (by simp)).grw (set_grw _ _ _ _) (by simp)
          · rw [HST.out, HSUM.out]; have := HS0.out; have := HOK.out.1; omega
          · rw [HST.out, HSUM.out]; have := HS1.out; have := HOK.out.2; omega
        case measure => simp [intOf]; omega
      · rw [if_neg hz, List.append_nil] at hst
        have HST := Lib.hid hst
        have hz' : (zk == 1) = false := by simpa using hz
        clear hst hok hz
        go_wp2_with fail
        go_roundw
        case rel => exact ⟨k + 1, HL.out, by go_num, by rw [HST.out], HE.out.alloc _ _, by rw [HST.out]; exact HBk.out.ext ((Ext.refl _).alloc _ _), HRk.out.ext ((Ext.refl _).alloc _ _), by rw [HST.out]; have := HS0.out; omega, by rw [HST.out]; have := HS1.out; omega⟩
        case measure => simp [intOf]; omega
    · have hke : l.take k = l := List.take_of_length_le (by have := HT.out; omega)
      rw [hke] at b0 b1 hs0 hs1
      rw [hke]
      have HN := Lib.hid (fun w' => narrow_prg (intL l).sum (by have := HLL.out; have := HT.out; omega) (by have := HLL.out; have := HT.out; omega) w')
      have hsl : sumL l = if (intL l).length = 0 then nul else numV (intL l).sum := rfl
      clear hE hB hR hke hs0 hs1
      have HSL := Lib.hid hsl
      generalize hS : (intL l).sum = sm at *
      unfold wV at HN
      generalize hiW sm = ph at *
      generalize loW sm = pl at *
      by_cases hz : (intL l).length = 0
      · have hf : decide ((intL l).length ≠ 0) = false := by simp [hz]
        rw [hf]
        have HQ := Lib.hid (show sumL l = nul by rw [HSL.out, if_pos hz])
        generalize fitB sm = ft at *
        clear hz hf hsl hS
        go_wp2_with fail
        refine (HN.out _).mono ?_; rintro e w3 ⟨nn, rfl, hnn, hE3⟩

        have HE3 := Lib.hid hE3
        have hRR := (((HRk.out.ext hE3).set 0 (.int .i64 0)).set 1 (.int .i64 0)).set 2 (sv [])
        have z0 := (hRR.2 0 _ rfl).1
        have z1 := (hRR.2 1 _ rfl).1
        have z2 := (hRR.2 2 _ rfl).1
        have y0 := ((HRk.out.ext hE3).2 0 _ rfl).1
        have y1 := ((HRk.out.ext hE3).2 1 _ rfl).1
        have y2 := ((HRk.out.ext hE3).2 2 _ rfl).1
        have x0 := ((HRk.out.ext hE3).2 0 _ rfl).2
        have x1 := ((HRk.out.ext hE3).2 1 _ rfl).2
        have x2 := ((HRk.out.ext hE3).2 2 _ rfl).2
        clear hRR hE3
        go_wp2_with fail
        exact bodyPost_ret (v := vv ⟨0, 0, []⟩) (by simp [results, Tryz.results134, go_sem, z0, z1, z2, vv]) rfl ⟨by rw [HQ.out]; rfl, (((HE.out.trans HE3.out).setNew _ _ (Nat.le_refl _) _).setNew _ _ (Nat.le_refl _) _).setNew _ _ (Nat.le_refl _) _⟩
      · have hf : decide ((intL l).length ≠ 0) = true := by simp [hz]
        rw [hf]
        cases hft : fitB sm with
        | true =>
          have HQ := Lib.hid (show sumL l = ⟨1, sm, []⟩ by rw [HSL.out, if_neg hz]; unfold numV; rw [if_pos hft])
          rw [hft] at HN
          clear hz hf hsl hS hft
          go_wp2_with fail
          refine (HN.out _).mono ?_; rintro e w3 ⟨nn, rfl, hnn, hE3⟩
          obtain rfl : nn = sm := by first | exact hnn rfl | exact hnn trivial
          have HE3 := Lib.hid hE3
          have hRR := (((HRk.out.ext hE3).set 0 (.int .i64 1)).set 1 (.int .i64 nn)).set 2 (sv [])
          have z0 := (hRR.2 0 _ rfl).1
          have z1 := (hRR.2 1 _ rfl).1
          have z2 := (hRR.2 2 _ rfl).1
          have y0 := ((HRk.out.ext hE3).2 0 _ rfl).1
          have y1 := ((HRk.out.ext hE3).2 1 _ rfl).1
          have y2 := ((HRk.out.ext hE3).2 2 _ rfl).1
          have x0 := ((HRk.out.ext hE3).2 0 _ rfl).2
          have x1 := ((HRk.out.ext hE3).2 1 _ rfl).2
          have x2 := ((HRk.out.ext hE3).2 2 _ rfl).2
          clear hRR hE3
          go_wp2_with fail
          exact bodyPost_ret (v := vv ⟨1, nn, []⟩) (by simp [results, Tryz.results134, go_sem, z0, z1, z2, vv]) rfl ⟨by rw [HQ.out], (((HE.out.trans HE3.out).setNew _ _ (Nat.le_refl _) _).setNew _ _ (Nat.le_refl _) _).setNew _ _ (Nat.le_refl _) _⟩
        | false =>
          have HQ := Lib.hid (show sumL l = nul by rw [HSL.out, if_neg hz]; unfold numV; rw [if_neg (by rw [hft]; simp)])
          rw [hft] at HN
          clear hz hf hsl hS hft
          go_wp2_with fail
          refine (HN.out _).mono ?_; rintro e w3 ⟨nn, rfl, hnn, hE3⟩

          have HE3 := Lib.hid hE3
          have hRR := (((HRk.out.ext hE3).set 0 (.int .i64 0)).set 1 (.int .i64 0)).set 2 (sv [])
          have z0 := (hRR.2 0 _ rfl).1
          have z1 := (hRR.2 1 _ rfl).1
          have z2 := (hRR.2 2 _ rfl).1
          have y0 := ((HRk.out.ext hE3).2 0 _ rfl).1
          have y1 := ((HRk.out.ext hE3).2 1 _ rfl).1
          have y2 := ((HRk.out.ext hE3).2 2 _ rfl).1
          have x0 := ((HRk.out.ext hE3).2 0 _ rfl).2
          have x1 := ((HRk.out.ext hE3).2 1 _ rfl).2
          have x2 := ((HRk.out.ext hE3).2 2 _ rfl).2
          clear hRR hE3
          go_wp2_with fail
          exact bodyPost_ret (v := vv ⟨0, 0, []⟩) (by simp [results, Tryz.results134, go_sem, z0, z1, z2, vv]) rfl ⟨by rw [HQ.out]; rfl, (((HE.out.trans HE3.out).setNew _ _ (Nat.le_refl _) _).setNew _ _ (Nat.le_refl _) _).setNew _ _ (Nat.le_refl _) _⟩
end Go.Proofs.YtbplapkcleipiaaGreatDoor
/- The smallest and the greatest of some values, of the program. -/
namespace Go.Proofs.YtbplapkcleipiaaGreatDoor
open Go.ChangeShapes Go.WideShapes Go.ChangeAt Go.RowKit

theorem cmp_ext (a b : V) (w : World) : Calls Tryz.prog 56 #[vv a, vv b] w fun e w' => e = .returned (.int .i64 (cmpV a b)) ∧ Ext w w' := (cmp_val a b w).mono fun _ _ h => ⟨h.1, ext_of_grown h.2⟩
theorem mn_step (l : List V) (k : Nat) (h : k < l.length) (h0 : 0 < k) : minL (l.take (k + 1)) = if cmpV l[k] (minL (l.take k)) < 0 then l[k] else minL (l.take k) := by
  cases l with
  | nil => simp at h
  | cons x l =>
    obtain ⟨j, rfl⟩ : ∃ j, k = j + 1 := ⟨k - 1, by omega⟩
    have hj : j < l.length := by simpa using h
    unfold minL
    simp only [List.take_succ_cons, List.tail_cons, List.headD_cons, List.getElem_cons_succ]
    rw [List.take_succ_eq_append_getElem hj, List.foldl_append]
    rfl
def mnR (W : World) (l : List V) (b r : Nat) (i : Value) (wr : World) : Prop := ∃ k : Nat, 0 < k ∧ k ≤ l.length ∧ i = .int .i64 k ∧ Ext W wr ∧ Bxn b [.int .i64 (minL (l.take k)).k, .int .i64 (minL (l.take k)).n, sv (minL (l.take k)).s] wr ∧ ∃ a c d, Bxn r [a, c, d] wr
set_option maxHeartbeats 4000000 in
set_option maxRecDepth 100000 in
theorem mn_prg (l : List V) (v : Value) (w : World) (h : RdG w v l) (hl : 0 < l.length) :
    Calls Tryz.prog 132 #[v, .func (.func 56) #[] #[]] w fun e w' => e = .returned (vv (minL l)) ∧ Ext w w' := by
  obtain ⟨ad, cap, rfl, h1, h2⟩ := h.shape
  have H := Lib.hid h
  obtain ⟨t, ht⟩ : ∃ t, t = l.length := ⟨_, rfl⟩
  have HT := Lib.hid ht
  obtain ⟨g, o, rfl, c0, c1, c2⟩ := rd_V h 0 hl
  have hm0 : minL (l.take 1) = l[0] := by cases l with | nil => simp at hl | cons x l => rfl
  have HM0 := Lib.hid hm0
  rw [← ht] at hl h1 H ⊢
  generalize l[0] = y at *
  obtain ⟨yk, yn, ys⟩ := y
  simp only [Nat.zero_mul, Nat.add_zero] at c0 c1 c2
  clear h ht hm0
  unfold maxLen at h2
  have hl2 : decide ((t : Int) < 1) = false := by simp; omega
  have hgs : g < w.heap.size := World.block_lt_of_cell? _ _ c0
  have HB := Lib.hid (show Bxn (w.heap.size + 1) [.int .i64 yk, .int .i64 yn, sv ys] ((w.alloc (.cells #[.int .i64 0, .int .i64 0, sv []] 58)).alloc (.cells #[.int .i64 yk, .int .i64 yn, sv ys] 58)) by rw [← alsz w]; exact Bxn.new _ _ _)
  have HBr := Lib.hid (show Bxn w.heap.size [.int .i64 0, .int .i64 0, sv []] ((w.alloc (.cells #[.int .i64 0, .int .i64 0, sv []] 58)).alloc (.cells #[.int .i64 yk, .int .i64 yn, sv ys] 58)) from (Bxn.new w _ _).ext ((Ext.refl _).alloc _ _))
  go_enter Tryz.func132, Tryz.ntmps132
  go_wp2_with fail
  go_loopw [6] (mnR w l (w.heap.size + 1) w.heap.size) (fun i _ => t - (intOf i).toNat)
  case atStart => exact ⟨1, by omega, by have := HT.out; omega, rfl, ((Ext.refl _).alloc _ _).alloc _ _, by rw [HM0.out]; exact HB.out, _, _, _, HBr.out⟩
  case round =>
    obtain ⟨k, hk0, hk, rfl, hE, hB, ra, rc, rd, hR⟩ := hrel
    have hkt : k ≤ t := by rw [HT.out]; exact hk
    have b0 := (hB.2 0 _ rfl).1
    have b1 := (hB.2 1 _ rfl).1
    have b2 := (hB.2 2 _ rfl).1
    have f0 := (hB.2 0 _ rfl).2
    have f1 := (hB.2 1 _ rfl).2
    have f2 := (hB.2 2 _ rfl).2
    have HE := Lib.hid hE
    have HBk := Lib.hid hB
    have HRk := Lib.hid hR
    by_cases hlt : k < t
    · have hlt' : k < l.length := by rw [← HT.out]; exact hlt
      obtain ⟨g', o', e', d0', d1', d2'⟩ := rd_V H.out k hlt'
      simp only [Option.some.injEq, Addr.mk.injEq, and_true] at e'
      obtain ⟨rfl, rfl⟩ := e'
      have d0 := hE.keeps d0'
      have d1 := hE.keeps d1'
      have d2 := hE.keeps d2'
      have hst := mn_step l k hlt' hk0
      clear d0' d1' d2' hE hB hR
      generalize l[k] = y at *
      generalize minL (l.take k) = m at *
      obtain ⟨zk, zn, zs⟩ := y
      obtain ⟨mk, mn, ms⟩ := m
      simp only at b0 b1 b2 d0 d1 d2
      have HC := Lib.hid (fun w' => cmp_ext ⟨zk, zn, zs⟩ ⟨mk, mn, ms⟩ w')
      have HL := Lib.hid hlt'
      by_cases hc : cmpV (⟨zk, zn, zs⟩ : V) ⟨mk, mn, ms⟩ < 0
      · rw [if_pos hc] at hst
        have HST := Lib.hid hst
        obtain ⟨cv, hcv⟩ : ∃ cv, cv = cmpV ⟨zk, zn, zs⟩ ⟨mk, mn, ms⟩ := ⟨_, rfl⟩
        rw [← hcv] at hc HC
        clear hst hcv
        go_wp2_with fail
        go_still_tail 6, (by kernel_rfl)
        change wpList _ _ _ _ _ wr.drew
        have hdr : Ext wr wr.drew := (Ext.refl _).drew
        generalize wr.drew = w2 at *
        go_wp2_with fail
        refine (HC.out _).mono ?_; rintro e w3 ⟨rfl, hE3⟩
        have HE3 := Lib.hid (hdr.trans hE3)
        have g0 := (((HBk.out).ext HE3.out).2 0 _ rfl).1
        have g1 := (((HBk.out).ext HE3.out).2 1 _ rfl).1
        have g2 := (((HBk.out).ext HE3.out).2 2 _ rfl).1
        have q0 := (((HBk.out).ext HE3.out).2 0 _ rfl).2
        have q1 := (((HBk.out).ext HE3.out).2 1 _ rfl).2
        have q2 := (((HBk.out).ext HE3.out).2 2 _ rfl).2
        have e0 := HE3.out.keeps d0
        have e1 := HE3.out.keeps d1
        have e2 := HE3.out.keeps d2
        have hs3 := (HBk.out.ext HE3.out).1
        clear hE3 hdr
        go_wp2_with fail
        go_roundw
        case rel =>
          refine ⟨k + 1, by omega, HL.out, by go_num, ?_, ?_, ra, rc, rd, ?_⟩
          · exact (((HE.out.trans HE3.out).setNew _ _ (by omega) _).setNew _ _ (by omega) _).setNew _ _ (by omega) _
          · rw [HST.out]; exact (((HBk.out.ext HE3.out).set 0 _).set 1 _).set 2 _
          · exact (((HRk.out.ext HE3.out).grw (set_grw _ _ _ _) (by simp)).grw (set_grw _ _ _ _) (by simp)).grw (set_grw _ _ _ _) (by simp)
        case measure => simp [intOf]; omega
      · rw [if_neg hc] at hst
        have HST := Lib.hid hst
        obtain ⟨cv, hcv⟩ : ∃ cv, cv = cmpV ⟨zk, zn, zs⟩ ⟨mk, mn, ms⟩ := ⟨_, rfl⟩
        rw [← hcv] at hc HC
        clear hst hcv
        go_wp2_with fail
        go_still_tail 6, (by kernel_rfl)
        change wpList _ _ _ _ _ wr.drew
        have hdr : Ext wr wr.drew := (Ext.refl _).drew
        generalize wr.drew = w2 at *
        go_wp2_with fail
        refine (HC.out _).mono ?_; rintro e w3 ⟨rfl, hE3⟩
        have HE3 := Lib.hid (hdr.trans hE3)
        clear hE3 hdr
        go_wp2_with fail
        go_roundw
        case rel => exact ⟨k + 1, by omega, HL.out, by go_num, HE.out.trans HE3.out, by rw [HST.out]; exact HBk.out.ext HE3.out, ra, rc, rd, HRk.out.ext HE3.out⟩
        case measure => simp [intOf]; omega
    · have hke : l.take k = l := List.take_of_length_le (by have := HT.out; omega)
      rw [hke] at b0 b1 b2
      have r0 := (hR.2 0 _ rfl).1
      have r1 := (hR.2 1 _ rfl).1
      have r2 := (hR.2 2 _ rfl).1
      have q0 := (hR.2 0 _ rfl).2
      have q1 := (hR.2 1 _ rfl).2
      have q2 := (hR.2 2 _ rfl).2
      have hs0 := hR.1
      have hs1 := hB.1
      clear hke hE hB
      obtain ⟨m, hm⟩ : ∃ m, m = minL l := ⟨_, rfl⟩
      rw [← hm] at b0 b1 b2
      obtain ⟨mk, mn, ms⟩ := m
      have HMM := Lib.hid hm
      clear hm
      simp only at b0 b1 b2
      have hRR := ((hR.set 0 (.int .i64 mk)).set 1 (.int .i64 mn)).set 2 (sv ms)
      have z0 := (hRR.2 0 _ rfl).1
      have z1 := (hRR.2 1 _ rfl).1
      have z2 := (hRR.2 2 _ rfl).1
      clear hR hRR
      go_wp2_with fail
      exact bodyPost_ret (v := vv ⟨mk, mn, ms⟩) (by simp [results, Tryz.results132, go_sem, z0, z1, z2, vv]) rfl ⟨by rw [← HMM.out], ((HE.out.setNew _ _ (Nat.le_refl _) _).setNew _ _ (Nat.le_refl _) _).setNew _ _ (Nat.le_refl _) _⟩
theorem mx_step (l : List V) (k : Nat) (h : k < l.length) (h0 : 0 < k) : maxL (l.take (k + 1)) = if 0 < cmpV l[k] (maxL (l.take k)) then l[k] else maxL (l.take k) := by
  cases l with
  | nil => simp at h
  | cons x l =>
    obtain ⟨j, rfl⟩ : ∃ j, k = j + 1 := ⟨k - 1, by omega⟩
    have hj : j < l.length := by simpa using h
    unfold maxL
    simp only [List.take_succ_cons, List.tail_cons, List.headD_cons, List.getElem_cons_succ]
    rw [List.take_succ_eq_append_getElem hj, List.foldl_append]
    rfl
def mxR (W : World) (l : List V) (b r : Nat) (i : Value) (wr : World) : Prop := ∃ k : Nat, 0 < k ∧ k ≤ l.length ∧ i = .int .i64 k ∧ Ext W wr ∧ Bxn b [.int .i64 (maxL (l.take k)).k, .int .i64 (maxL (l.take k)).n, sv (maxL (l.take k)).s] wr ∧ ∃ a c d, Bxn r [a, c, d] wr
set_option maxHeartbeats 4000000 in
set_option maxRecDepth 100000 in
theorem mx_prg (l : List V) (v : Value) (w : World) (h : RdG w v l) (hl : 0 < l.length) :
    Calls Tryz.prog 133 #[v, .func (.func 56) #[] #[]] w fun e w' => e = .returned (vv (maxL l)) ∧ Ext w w' := by
  obtain ⟨ad, cap, rfl, h1, h2⟩ := h.shape
  have H := Lib.hid h
  obtain ⟨t, ht⟩ : ∃ t, t = l.length := ⟨_, rfl⟩
  have HT := Lib.hid ht
  obtain ⟨g, o, rfl, c0, c1, c2⟩ := rd_V h 0 hl
  have hm0 : maxL (l.take 1) = l[0] := by cases l with | nil => simp at hl | cons x l => rfl
  have HM0 := Lib.hid hm0
  rw [← ht] at hl h1 H ⊢
  generalize l[0] = y at *
  obtain ⟨yk, yn, ys⟩ := y
  simp only [Nat.zero_mul, Nat.add_zero] at c0 c1 c2
  clear h ht hm0
  unfold maxLen at h2
  have hl2 : decide ((t : Int) < 1) = false := by simp; omega
  have hgs : g < w.heap.size := World.block_lt_of_cell? _ _ c0
  have HB := Lib.hid (show Bxn (w.heap.size + 1) [.int .i64 yk, .int .i64 yn, sv ys] ((w.alloc (.cells #[.int .i64 0, .int .i64 0, sv []] 58)).alloc (.cells #[.int .i64 yk, .int .i64 yn, sv ys] 58)) by rw [← alsz w]; exact Bxn.new _ _ _)
  have HBr := Lib.hid (show Bxn w.heap.size [.int .i64 0, .int .i64 0, sv []] ((w.alloc (.cells #[.int .i64 0, .int .i64 0, sv []] 58)).alloc (.cells #[.int .i64 yk, .int .i64 yn, sv ys] 58)) from (Bxn.new w _ _).ext ((Ext.refl _).alloc _ _))
  go_enter Tryz.func133, Tryz.ntmps133
  go_wp2_with fail
  go_loopw [6] (mxR w l (w.heap.size + 1) w.heap.size) (fun i _ => t - (intOf i).toNat)
  case atStart => exact ⟨1, by omega, by have := HT.out; omega, rfl, ((Ext.refl _).alloc _ _).alloc _ _, by rw [HM0.out]; exact HB.out, _, _, _, HBr.out⟩
  case round =>
    obtain ⟨k, hk0, hk, rfl, hE, hB, ra, rc, rd, hR⟩ := hrel
    have hkt : k ≤ t := by rw [HT.out]; exact hk
    have b0 := (hB.2 0 _ rfl).1
    have b1 := (hB.2 1 _ rfl).1
    have b2 := (hB.2 2 _ rfl).1
    have f0 := (hB.2 0 _ rfl).2
    have f1 := (hB.2 1 _ rfl).2
    have f2 := (hB.2 2 _ rfl).2
    have HE := Lib.hid hE
    have HBk := Lib.hid hB
    have HRk := Lib.hid hR
    by_cases hlt : k < t
    · have hlt' : k < l.length := by rw [← HT.out]; exact hlt
      obtain ⟨g', o', e', d0', d1', d2'⟩ := rd_V H.out k hlt'
      simp only [Option.some.injEq, Addr.mk.injEq, and_true] at e'
      obtain ⟨rfl, rfl⟩ := e'
      have d0 := hE.keeps d0'
      have d1 := hE.keeps d1'
      have d2 := hE.keeps d2'
      have hst := mx_step l k hlt' hk0
      clear d0' d1' d2' hE hB hR
      generalize l[k] = y at *
      generalize maxL (l.take k) = m at *
      obtain ⟨zk, zn, zs⟩ := y
      obtain ⟨mk, mn, ms⟩ := m
      simp only at b0 b1 b2 d0 d1 d2
      have HC := Lib.hid (fun w' => cmp_ext ⟨zk, zn, zs⟩ ⟨mk, mn, ms⟩ w')
      have HL := Lib.hid hlt'
      by_cases hc : 0 < cmpV (⟨zk, zn, zs⟩ : V) ⟨mk, mn, ms⟩
      · rw [if_pos hc] at hst
        have HST := Lib.hid hst
        obtain ⟨cv, hcv⟩ : ∃ cv, cv = cmpV ⟨zk, zn, zs⟩ ⟨mk, mn, ms⟩ := ⟨_, rfl⟩
        rw [← hcv] at hc HC
        clear hst hcv
        go_wp2_with fail
        go_still_tail 6, (by kernel_rfl)
        change wpList _ _ _ _ _ wr.drew
        have hdr : Ext wr wr.drew := (Ext.refl _).drew
        generalize wr.drew = w2 at *
        go_wp2_with fail
        refine (HC.out _).mono ?_; rintro e w3 ⟨rfl, hE3⟩
        have HE3 := Lib.hid (hdr.trans hE3)
        have g0 := (((HBk.out).ext HE3.out).2 0 _ rfl).1
        have g1 := (((HBk.out).ext HE3.out).2 1 _ rfl).1
        have g2 := (((HBk.out).ext HE3.out).2 2 _ rfl).1
        have q0 := (((HBk.out).ext HE3.out).2 0 _ rfl).2
        have q1 := (((HBk.out).ext HE3.out).2 1 _ rfl).2
        have q2 := (((HBk.out).ext HE3.out).2 2 _ rfl).2
        have e0 := HE3.out.keeps d0
        have e1 := HE3.out.keeps d1
        have e2 := HE3.out.keeps d2
        have hs3 := (HBk.out.ext HE3.out).1
        clear hE3 hdr
        go_wp2_with fail
        go_roundw
        case rel =>
          refine ⟨k + 1, by omega, HL.out, by go_num, ?_, ?_, ra, rc, rd, ?_⟩
          · exact (((HE.out.trans HE3.out).setNew _ _ (by omega) _).setNew _ _ (by omega) _).setNew _ _ (by omega) _
          · rw [HST.out]; exact (((HBk.out.ext HE3.out).set 0 _).set 1 _).set 2 _
          · exact (((HRk.out.ext HE3.out).grw (set_grw _ _ _ _) (by simp)).grw (set_grw _ _ _ _) (by simp)).grw (set_grw _ _ _ _) (by simp)
        case measure => simp [intOf]; omega
      · rw [if_neg hc] at hst
        have HST := Lib.hid hst
        obtain ⟨cv, hcv⟩ : ∃ cv, cv = cmpV ⟨zk, zn, zs⟩ ⟨mk, mn, ms⟩ := ⟨_, rfl⟩
        rw [← hcv] at hc HC
        clear hst hcv
        go_wp2_with fail
        go_still_tail 6, (by kernel_rfl)
        change wpList _ _ _ _ _ wr.drew
        have hdr : Ext wr wr.drew := (Ext.refl _).drew
        generalize wr.drew = w2 at *
        go_wp2_with fail
        refine (HC.out _).mono ?_; rintro e w3 ⟨rfl, hE3⟩
        have HE3 := Lib.hid (hdr.trans hE3)
        clear hE3 hdr
        go_wp2_with fail
        go_roundw
        case rel => exact ⟨k + 1, by omega, HL.out, by go_num, HE.out.trans HE3.out, by rw [HST.out]; exact HBk.out.ext HE3.out, ra, rc, rd, HRk.out.ext HE3.out⟩
        case measure => simp [intOf]; omega
    · have hke : l.take k = l := List.take_of_length_le (by have := HT.out; omega)
      rw [hke] at b0 b1 b2
      have r0 := (hR.2 0 _ rfl).1
      have r1 := (hR.2 1 _ rfl).1
      have r2 := (hR.2 2 _ rfl).1
      have q0 := (hR.2 0 _ rfl).2
      have q1 := (hR.2 1 _ rfl).2
      have q2 := (hR.2 2 _ rfl).2
      have hs0 := hR.1
      have hs1 := hB.1
      clear hke hE hB
      obtain ⟨m, hm⟩ : ∃ m, m = maxL l := ⟨_, rfl⟩
      rw [← hm] at b0 b1 b2
      obtain ⟨mk, mn, ms⟩ := m
      have HMM := Lib.hid hm
      clear hm
      simp only at b0 b1 b2
      have hRR := ((hR.set 0 (.int .i64 mk)).set 1 (.int .i64 mn)).set 2 (sv ms)
      have z0 := (hRR.2 0 _ rfl).1
      have z1 := (hRR.2 1 _ rfl).1
      have z2 := (hRR.2 2 _ rfl).1
      clear hR hRR
      go_wp2_with fail
      exact bodyPost_ret (v := vv ⟨mk, mn, ms⟩) (by simp [results, Tryz.results133, go_sem, z0, z1, z2, vv]) rfl ⟨by rw [← HMM.out], ((HE.out.setNew _ _ (Nat.le_refl _) _).setNew _ _ (Nat.le_refl _) _).setNew _ _ (Nat.le_refl _) _⟩
end Go.Proofs.YtbplapkcleipiaaGreatDoor
