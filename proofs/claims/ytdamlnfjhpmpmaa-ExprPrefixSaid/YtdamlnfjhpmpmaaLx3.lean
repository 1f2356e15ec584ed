/- The law ExprTyped. -/
import Derived.Test.YtdamlnfjhpmpmaaLx1
namespace Go.Proofs.Ytdamlnfjhpmpmaa
open Go.ChangeShapes Go.WideShapes Go.ChangeAt Go.RowKit

def kds (row : List V) : List Int := row.map (·.k)
theorem kds_len (row : List V) : (kds row).length = row.length := by simp [kds]
theorem kds_succ (row : List V) (k : Nat) (h : k < row.length) : kds (row.take (k + 1)) = kds (row.take k) ++ [row[k].k] := by
  unfold kds
  rw [List.take_add_one, List.getElem?_eq_getElem h, List.map_append]
  rfl
theorem kds_at (row : List V) (c : Int) (h : isIx c (kds row).length = true) : atI (kds row) c = (colV row c).k := by
  have h1 := (isIx_iff _ _).1 h
  have h2 : isIx c row.length = true := by rw [kds_len] at h; exact h
  rw [kds_len] at h1
  unfold atI colV atV kds
  rw [if_pos h2, getD_at _ _ _ (by rw [List.length_map]; omega), getD_at _ _ _ (by omega), List.getElem_map]
def msk (row : List V) (kn : List Bool) (k : Nat) : List V := (List.range row.length).map fun j => if j < k ∧ kn.getD j false = true then nul else row.getD j nul
theorem msk_len (row : List V) (kn : List Bool) (k : Nat) : (msk row kn k).length = row.length := by simp [msk]
theorem msk_at (row : List V) (kn : List Bool) (k j : Nat) (hj : j < row.length) : (msk row kn k).getD j nul = if j < k ∧ kn.getD j false = true then nul else row.getD j nul := by
  rw [getD_at _ _ _ (by rw [msk_len]; exact hj)]; simp [msk]
theorem msk_zero (row : List V) (kn : List Bool) : msk row kn 0 = row := by
  refine list_getD_ext _ _ nul (msk_len _ _ _) fun j hj => ?_
  rw [msk_len] at hj
  rw [msk_at _ _ _ _ hj, if_neg (by omega)]
theorem msk_same (row : List V) (kn : List Bool) (k : Nat) (h : kn.getD k false = false) : msk row kn (k + 1) = msk row kn k := by
  refine list_getD_ext _ _ nul (by rw [msk_len, msk_len]) fun j hj => ?_
  rw [msk_len] at hj
  rw [msk_at _ _ _ _ hj, msk_at _ _ _ _ hj]
  by_cases hjk : j = k
  · subst hjk
    rw [if_neg (by rw [h]; simp), if_neg (by omega)]
  · by_cases h1 : j < k
    · simp [h1, Nat.lt_succ_of_lt h1]
    · rw [if_neg (by omega), if_neg (by omega)]
theorem msk_step (row : List V) (kn : List Bool) (k : Nat) (hk : k < row.length) (h : kn.getD k false = true) : msk row kn (k + 1) = (msk row kn k).set k nul := by
  refine list_getD_ext _ _ nul (by rw [List.length_set, msk_len, msk_len]) fun j hj => ?_
  rw [msk_len] at hj
  rw [getD_set _ _ _ _ _ (by rw [msk_len]; exact hk), msk_at _ _ _ _ hj, msk_at _ _ _ _ hj]
  by_cases hjk : k = j
  · subst hjk
    rw [if_pos ⟨by omega, h⟩, if_pos rfl]
  · rw [if_neg hjk]
    by_cases h3 : j < k
    · simp [h3, Nat.lt_succ_of_lt h3]
    · rw [if_neg (by omega), if_neg (by omega)]
theorem msk_ok (row : List V) (kn : List Bool) (k : Nat) (h : OkR row) : OkR (msk row kn k) := by
  intro v hv
  unfold msk at hv
  obtain ⟨j, _, rfl⟩ := List.mem_map.1 hv
  split
  · exact okN_nul
  · exact okR_at h j
theorem msk_kinds (row : List V) (kn : List Bool) (k : Nat) : Kinds (kds row) (msk row kn k) := by
  intro c hc
  have h1 := (isIx_iff _ _).1 hc
  rw [kds_at row c hc]
  rw [kds_len] at h1
  have h2 : isIx c row.length = true := by rw [kds_len] at hc; exact hc
  unfold colV atV
  rw [msk_len, if_pos h2, msk_at _ _ _ _ (by omega)]
  split
  · right; rfl
  · left; rfl
theorem typed (l : List X) (root : Int) (cols : List Int) (row : List V) (hk : Kinds cols row) : (chkV l root cols).2 ≠ 0 ∨ (evlV l root row).k = (chkV l root cols).1 ∨ (evlV l root row).k = 0 := by
  by_cases h0 : (chkV l root cols).2 = 0
  · right
    revert h0
    unfold chkV evlV
    by_cases h1 : 200 < l.length
    · rw [if_pos h1]; intro h; cases h
    rw [if_neg h1]
    cases hb : isIx root l.length with
    | false => rw [if_pos rfl]; intro h; cases h
    | true =>
      have hx := (isIx_iff _ _).1 hb
      rw [if_neg (by decide), if_neg (by decide)]
      intro h
      exact evs_typed cols row hk l (root.toNat + 1) root.toNat (by omega) (by omega) h
  · exact .inl h0
theorem ext_cut (w : World) (B : Nat) (h : B ≤ w.heap.size) : ∃ W' : World, W'.heap.size = B ∧ Ext W' w := by
  refine ⟨{ w with heap := w.heap.extract 0 B }, by simp; omega, ext_grownBy (row := none) (Ext.refl _) ⟨rfl, rfl, rfl, by simp; omega, fun k hk _ => ?_⟩ (fun k e => by cases e)⟩
  have hk' : k < B := by simp at hk; omega
  show w.heap[k]? = (w.heap.extract 0 B)[k]?
  rw [Array.getElem?_extract, if_pos (by omega), Nat.zero_add]
theorem owns_other {w w' : World} {base : Nat} {e : TypeId} {size : Nat} {v : Value} {n : Nat} {xs : List Value} {ob : Option Nat} (h : w.ownsRow base e size v n xs) (hg : w.grownBy w' ob) (hne : ∀ g, v.ownBlock = some g → ob ≠ some g) : w'.ownsRow base e size v n xs := by
  refine ⟨h.1, ?_⟩
  rcases h.2 with hz | ⟨g, cap, cur, rfl, hb, hgg, hr⟩
  · exact .inl hz
  · refine .inr ⟨g, cap, cur, rfl, hb, ?_, hr⟩
    have hlt : g < w.heap.size := (Array.getElem?_eq_some_iff.1 hgg).1
    obtain ⟨_, _, _, _, hx⟩ := hg
    have hx := hx g hlt (fun e => hne g rfl (by rw [e]))
    rw [hx]; exact hgg
theorem OwnG.put3' {e : TypeId} {W w : World} {g n cap : Nat} {l : List V} (h : OwnG e W w (.slice (some ⟨g, 0, none⟩) n cap) l) (hn : n = l.length) (i : Nat) (p q : Int) (t : List UInt8) :
    w.grownBy (((w.setCell ⟨g, i * 3, none⟩ (.int .i64 p)).setCell ⟨g, i * 3 + 1, none⟩ (.int .i64 q)).setCell ⟨g, i * 3 + 2, none⟩ (sv t)) (some g) := by
  subst hn
  exact (putAll_owns (Enc.cells (⟨p, q, t⟩ : V)) w (i * Enc.sz V) (cellsG l) h.1).2
theorem two_rows {W w w' : World} {B : Nat} {v vC : Value} {l : List V} (hO : OwnG tV.e W w vC l) (hB : ∀ g, vC.ownBlock = some g → g < B) (hW : W.heap.size ≤ B) (hv : ∀ k, v.ownBlock = some k → B ≤ k) (hg : w.grownBy w' v.ownBlock) : OwnG tV.e W w' vC l :=
  ⟨owns_other hO.1 hg (fun g h1 h2 => by have := hB g h1; have := hv g h2; omega), ext_grownBy hO.2 hg (fun k hk => by have := hv k hk; omega)⟩
def TyR (W : World) (B : Nat) (row : List V) (kn : List Bool) (vC : Value) (v i : Value) (wr : World) : Prop :=
  ∃ k : Nat, k ≤ row.length ∧ i = .int .i64 k ∧ wr.ownsRow B tI.e 1 v (kds (row.take k)).length (cellsG (kds (row.take k))) ∧ OwnG tV.e W wr vC (msk row kn k) ∧ B ≤ wr.heap.size ∧ W.heap.size ≤ B ∧ (∀ g, vC.ownBlock = some g → g < B)
set_option maxHeartbeats 4000000 in
set_option maxRecDepth 100000 in
theorem typed_few (l : List X) (root : Int) (row : List V) (vl vr vk : Value) (w : World) (rl : RdG w vl l) (rr : RdG w vr row) (h : fewB l.length row.length = false) :
    Calls Try.prog 6 #[vl, .int .i64 root, vr, vk] w fun e w' => e = .returned (.bool true) ∧ Ext w w' := by
  have hF := few_law l vl row.length w rl
  obtain ⟨al, cl, rfl, _, _⟩ := rl.shape
  obtain ⟨ar, cr, rfl, _, _⟩ := rr.shape
  rw [h] at hF
  have HF := Lib.hid hF
  clear hF rl rr h
  go_enter Try.func6, Try.ntmps6
  go_wp2_with fail
  refine HF.out.mono ?_; rintro e w1 ⟨rfl, rfl⟩
  go_wp2_with fail
  refine (awake_law _).mono ?_; rintro e w1 ⟨rfl, hE⟩
  go_wp2_with fail
  go_ret
  exact ⟨rfl, hE⟩
set_option maxHeartbeats 8000000 in
set_option maxRecDepth 100000 in
theorem typed_main (l : List X) (root : Int) (row : List V) (kn : List Bool) (vl vr vk : Value) (w : World) (rl : RdG w vl l) (rr : RdG w vr row) (rk : RdG w vk kn) (ox : OkX l) (okr : OkR row) (h : fewB l.length row.length = true) :
    Calls Try.prog 6 #[vl, .int .i64 root, vr, vk] w fun e w' => e = .returned (.bool true) ∧ Ext w w' := by
  have hF := few_law l vl row.length w rl
  rw [h] at hF
  obtain ⟨hl1, hr1⟩ := few_yes h
  have hEv := fun r v w' a b c => eval_prg l root r vl v w' a b (by omega) ox c
  have hCk := fun c v w' a b => check_prg l root c vl v w' a b
  obtain ⟨al, cl, rfl, _, _⟩ := rl.shape
  obtain ⟨ar, cr, rfl, _, _⟩ := rr.shape
  obtain ⟨ak, ck, rfl, k1, k2⟩ := rk.shape
  unfold maxLen at k2
  have HF := Lib.hid hF
  have HCk := Lib.hid hCk
  have HEv := Lib.hid hEv
  have RL := Lib.hid rl
  have RR := Lib.hid rr
  have RK := Lib.hid rk
  have OR := Lib.hid okr
  obtain ⟨n, hn⟩ : ∃ n, n = row.length := ⟨_, rfl⟩
  obtain ⟨m, hm⟩ : ∃ m, m = kn.length := ⟨_, rfl⟩
  have HN := Lib.hid hn
  have HM := Lib.hid hm
  rw [← hn] at RR HF hr1 ⊢
  rw [← hm] at RK k1 ⊢
  clear hF hCk hEv rl rr rk okr h hn hm ox
  go_enter Try.func6, Try.ntmps6
  go_wp2_with fail
  refine HF.out.mono ?_; rintro e w1 ⟨rfl, rfl⟩
  go_wp2_with (at_builtin; refine appG tV rfl _ _ rfl w _ [] rfl (OwnG.nil _ _ _ (Ext.refl _)) _ row rfl RR.out (by have := HN.out; simp; omega) ?_; intro v' w2 hO' hg'; rw [List.nil_append] at hO'; obtain ⟨aC, cC, rfl, hc1, hc2⟩ := hO'.rd.shape; rw [← HN.out] at hc1 hO' ⊢)
  unfold maxLen at hc2
  clear hg'
  go_loopw [9, 26] (TyR w w2.heap.size row kn (.slice aC n cC)) (fun _ i _ => n - (intOf i).toNat)
  case atStart => exact ⟨0, by omega, rfl, World.ownsRow_nil _ _ _ _, by rw [msk_zero]; exact hO', Nat.le_refl _, hO'.2.2.2, fun g hg => (hO'.1.lt g hg).2⟩
  case round =>
    clear hO'
    obtain ⟨k, hk, rfl, hI, hO, hB1, hB2, hB3⟩ := hrel
    rw [← HN.out] at hk
    obtain ⟨W', hW1, hW2⟩ := ext_cut wr w2.heap.size hB1
    have hOI : OwnG tI.e W' wr _ (kds (row.take k)) := ⟨by rw [hW1]; exact hI, hW2⟩
    by_cases hlt : k < n
    · have hi0 : (0 : Int) ≤ (k : Int) := by omega
      have hi1 : (k : Int) < (n : Int) := by omega
      have hkr : k < row.length := by rw [← HN.out]; exact hlt
      obtain ⟨g, o, rfl, c0, c1, c2⟩ := rd_V RR.out k hkr
      have C0 := hO.2.keeps c0
      have C1 := hO.2.keeps c1
      have C2 := hO.2.keeps c2
      have hks := kds_succ row k hkr
      obtain ⟨gC, rfl, hg1, hg2, hg3⟩ := hO.adr (by rw [msk_len]; omega)
      have HG3 := Lib.hid hg3
      clear hg3
      have hgB : gC < w2.heap.size := hB3 gC rfl
      have hB3 := Lib.hid hB3
      generalize row[k] = x at *
      obtain ⟨xk, xn, xs⟩ := x
      simp only at C0 C1 C2 hks
      have HKS := Lib.hid hks
      have hkl : (kds (row.take k)).length ≤ 1000 := by rw [kds_len, List.length_take]; omega
      have HKL := Lib.hid hkl
      have HOO := Lib.hid hO
      have HOI := Lib.hid hOI
      have hIlt := Lib.hid hI.lt
      clear c0 c1 c2 hks hkl hO hOI hI
      have hfin : ∀ v' w', OwnG tI.e W' w' v' (kds (row.take k) ++ [xk]) → w'.ownsRow w2.heap.size tI.e 1 v' (kds (row.take (k + 1))).length (cellsG (kds (row.take (k + 1)))) := fun v' w' h => by have h1 := h.1; rw [hW1, ← HKS.out] at h1; exact h1
      by_cases hkm : k < m
      · have hi2 : (k : Int) < (m : Int) := by omega
        have hkk : k < kn.length := by rw [← HM.out]; exact hkm
        obtain ⟨gK, oK, rfl, cK⟩ := rd_B RK.out k hkk
        rw [← getD_at kn false k hkk] at cK
        cases hkb : kn.getD k false with
        | false =>
          rw [hkb] at cK
          have HS := Lib.hid (msk_same row kn k hkb)
          clear hkb
          go_wp2_with (at_builtin; refine appG tI rfl _ _ rfl W' _ (kds (row.take k)) rfl ((HOI.out.ext ((Ext.refl _).alloc _ _)).ext ((Ext.refl _).alloc _ _)) _ [xk] rfl (rd_lit1I _ xk _ _ (by simp)) (by have := HKL.out; simp; omega) ?_; intro v' w' hO' hg'; have hO2 := two_rows ((HOO.out.ext ((Ext.refl _).alloc _ _)).ext ((Ext.refl _).alloc _ _)) hB3.out hB2 (fun kk hh => (hIlt.out kk hh).1) hg'; have hB4 : w2.heap.size ≤ w'.heap.size := (by have h1 := hO'.2.2.2; omega); have K := hO2.2.keeps cK; obtain ⟨z0, z1, z2⟩ := hO2.c3 k (by rw [msk_len]; exact hkr); have y0 := hO2.fz HG3.out (k * 3); have y1 := hO2.fz HG3.out (k * 3 + 1); have y2 := hO2.fz HG3.out (k * 3 + 2))
          go_roundw
          case rel => exact ⟨k + 1, by omega, by go_num, hfin _ _ hO', by rw [HS.out]; exact hO2, hB4, hB2, hB3.out⟩
          case measure => simp [intOf]; omega
        | true =>
          rw [hkb] at cK
          have HS := Lib.hid (msk_step row kn k hkr hkb)
          clear hkb
          go_wp2_with (at_builtin; refine appG tI rfl _ _ rfl W' _ (kds (row.take k)) rfl ((HOI.out.ext ((Ext.refl _).alloc _ _)).ext ((Ext.refl _).alloc _ _)) _ [xk] rfl (rd_lit1I _ xk _ _ (by simp)) (by have := HKL.out; simp; omega) ?_; intro v' w' hO' hg'; have hO2 := two_rows ((HOO.out.ext ((Ext.refl _).alloc _ _)).ext ((Ext.refl _).alloc _ _)) hB3.out hB2 (fun kk hh => (hIlt.out kk hh).1) hg'; have hB4 : w2.heap.size ≤ w'.heap.size := (by have h1 := hO'.2.2.2; omega); have K := hO2.2.keeps cK; obtain ⟨z0, z1, z2⟩ := hO2.c3 k (by rw [msk_len]; exact hkr); have y0 := hO2.fz HG3.out (k * 3); have y1 := hO2.fz HG3.out (k * 3 + 1); have y2 := hO2.fz HG3.out (k * 3 + 2))
          go_roundw
          case rel => exact ⟨k + 1, by omega, by go_num, owns_other (hfin _ _ hO') (hO2.put3' HG3.out k 0 0 []) (fun g h1 h2 => by have h3 := ((hfin _ _ hO').lt g h1).1; injection h2 with h2; omega), by rw [HS.out]; exact hO2.put3 HG3.out hg1 k 0 0 [] (by rw [msk_len]; exact hkr), by simpa using hB4, hB2, hB3.out⟩
          case measure => simp [intOf]; omega
      · have hi2 : decide ((k : Int) < (m : Int)) = false := by simpa using hkm
        have HS := Lib.hid (msk_same row kn k (by simp [List.getD, List.getElem?_eq_none (show kn.length ≤ k by rw [← HM.out]; omega)]))
        go_wp2_with (at_builtin; refine appG tI rfl _ _ rfl W' _ (kds (row.take k)) rfl ((HOI.out.ext ((Ext.refl _).alloc _ _)).ext ((Ext.refl _).alloc _ _)) _ [xk] rfl (rd_lit1I _ xk _ _ (by simp)) (by have := HKL.out; simp; omega) ?_; intro v' w' hO' hg'; have hO2 := two_rows ((HOO.out.ext ((Ext.refl _).alloc _ _)).ext ((Ext.refl _).alloc _ _)) hB3.out hB2 (fun kk hh => (hIlt.out kk hh).1) hg'; have hB4 : w2.heap.size ≤ w'.heap.size := (by have h1 := hO'.2.2.2; omega))
        go_roundw
        case rel => exact ⟨k + 1, by omega, by go_num, hfin _ _ hO', by rw [HS.out]; exact hO2, hB4, hB2, hB3.out⟩
        case measure => simp [intOf]; omega
    · have hke : k = n := by omega
      subst hke
      have hend : decide ((k : Int) < (k : Int)) = false := by simp
      rw [HN.out, List.take_length] at hOI
      have hty := typed l root (kds row) (msk row kn k) (msk_kinds row kn k)
      have e1 := HCk.out (kds row)
      have e2 := HEv.out (msk row kn k)
      generalize chkV l root (kds row) = pq at *
      obtain ⟨p, q⟩ := pq
      generalize evlV l root (msk row kn k) = rv at *
      obtain ⟨rk, rn, rs⟩ := rv
      simp only at hty
      have HTY := Lib.hid hty
      have HO := Lib.hid hO
      have HOI := Lib.hid hOI.rd
      have E1 := Lib.hid e1
      have E2 := Lib.hid e2
      have OM := Lib.hid (msk_ok row kn k OR.out)
      clear hty hO hOI e1 e2 HCk HEv hI hB3
      go_wp2_with fail
      refine (E1.out _ _ (RL.out.ext HO.out.2) HOI.out).mono ?_; rintro e w3 ⟨rfl, hE3⟩
      have HE3 := Lib.hid hE3
      clear hE3
      go_wp2_with fail
      refine (E2.out _ _ (RL.out.ext (HO.out.2.trans HE3.out)) (HO.out.ext HE3.out).rd OM.out).mono ?_; rintro e w4 ⟨rfl, hE4⟩
      have HE4 := Lib.hid (HE3.out.trans hE4)
      have hbx := al_c w4 #[.int .i64 rk, .int .i64 rn, sv rs] 34 0 (.int .i64 rk) rfl
      have HBX := Lib.hid hbx
      clear hE4 hbx
      go_wp2_with fail
      refine (awake_law _).mono ?_; rintro e w5 ⟨rfl, hE5⟩
      have hbx := hE5.keeps HBX.out
      have HE5 := Lib.hid (HE4.out.trans (((Ext.refl w4).alloc #[.int .i64 rk, .int .i64 rn, sv rs] 34).trans hE5))
      clear hE5
      by_cases hq : q = 0
      · subst hq
        by_cases hp : rk = p
        · subst hp
          go_wp2_with fail
          go_ret
          exact ⟨by simp, HO.out.2.trans HE5.out⟩
        · obtain rfl : rk = 0 := by rcases HTY.out with h | h | h; exact absurd rfl h; exact absurd h hp; exact h
          have hp' : ((0 : Int) == p) = false := by simpa using hp
          go_wp2_with fail
          go_ret
          exact ⟨by simp, HO.out.2.trans HE5.out⟩
      · have hq' : (q == 0) = false := by simpa using hq
        go_wp2_with fail
        go_ret
        exact ⟨by simp, HO.out.2.trans HE5.out⟩
theorem law_ExprTyped (l : List X) (root : Int) (row : List V) (kn : List Bool) (vl vr vk : Value) (w : World) (rl : RdG w vl l) (rr : RdG w vr row) (rk : RdG w vk kn) (ox : OkX l) (okr : OkR row) :
    Calls Try.prog 6 #[vl, .int .i64 root, vr, vk] w fun e w' => e = .returned (.bool true) ∧ Ext w w' := by
  cases h : fewB l.length row.length with
  | false => exact typed_few l root row vl vr vk w rl rr h
  | true => exact typed_main l root row kn vl vr vk w rl rr rk ox okr h
end Go.Proofs.Ytdamlnfjhpmpmaa
