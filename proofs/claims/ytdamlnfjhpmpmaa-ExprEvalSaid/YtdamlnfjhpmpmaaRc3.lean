/- The reference's type of one expression, joined; its Check. -/
import Derived.Test.YtdamlnfjhpmpmaaRc2
import Derived.Test.YtdamlnfjhpmpmaaRc2a
import Derived.Test.YtdamlnfjhpmpmaaRc2b
import Derived.Test.YtdamlnfjhpmpmaaRc2c
import Derived.Test.YtdamlnfjhpmpmaaRc2d
import Derived.Test.YtdamlnfjhpmpmaaEw4
namespace Go.Proofs.Ytdamlnfjhpmpmaa
open Go.ChangeShapes Go.WideShapes Go.ChangeAt Go.RowKit

theorem ari_i0 {op : Int} (h : ari op = 0) : op = 1 ∨ op = 2 := by
  unfold ari at h; split at h
  · assumption
  · split at h
    · omega
    · split at h <;> omega
theorem ari_i1 {op : Int} (h : ari op = 1) : op = 10 ∨ op = 11 := by
  unfold ari at h; split at h
  · omega
  · split at h
    · assumption
    · split at h <;> omega
theorem ari_i2 {op : Int} (h : ari op = 2) : 3 ≤ op ∧ op ≤ 9 := by
  unfold ari at h; split at h
  · omega
  · split at h
    · omega
    · split at h
      · assumption
      · omega
theorem one_ref (l : List X) (k : Nat) (cols : List Int) (D : List (Int × Int)) (vl vc vd : Value) (w : World) (hl : RdG w vl l) (hc : RdG w vc cols) (hd : RdG w vd D) (hk : k < l.length) (hD : k ≤ D.length) :
    Calls Try.prog 23 #[vl, .int .i64 k, vc, vd] w fun e w' => e = .returned (kv (chO l[k] (D.take k) cols)) ∧ Ext w w' := by
  rcases ari_vals l[k].op with h | h | h | h
  · exact oneR_none l k cols D vl vc vd w hl hc hd hk hD h
  · rcases ari_i0 h with e | e
    · exact oneR_1 l k cols D vl vc vd w hl hc hd hk hD e
    · exact oneR_2 l k cols D vl vc vd w hl hc hd hk hD e
  · cases hb : lgl l[k] k with
    | false => exact oneR_bad l k cols D vl vc vd w hl hc hd hk hD (.inl h) hb
    | true =>
      by_cases hq : (atK D l[k].a).2 = 0
      · rcases ari_i1 h with e | e
        · exact oneR_10 l k cols D vl vc vd w hl hc hd hk hD e hb hq
        · exact oneR_11 l k cols D vl vc vd w hl hc hd hk hD e hb hq
      · exact oneR_a l k cols D vl vc vd w hl hc hd hk hD (.inl h) hb hq
  · cases hb : lgl l[k] k with
    | false => exact oneR_bad l k cols D vl vc vd w hl hc hd hk hD (.inr h) hb
    | true =>
      by_cases hq : (atK D l[k].a).2 = 0
      · by_cases hq2 : (atK D l[k].b).2 = 0
        · have := ari_i2 h
          rcases (show l[k].op = 3 ∨ l[k].op = 4 ∨ l[k].op = 5 ∨ l[k].op = 6 ∨ l[k].op = 7 ∨ l[k].op = 8 ∨ l[k].op = 9 by omega) with e | e | e | e | e | e | e
          · exact oneR_3 l k cols D vl vc vd w hl hc hd hk hD e hb hq hq2
          · exact oneR_4 l k cols D vl vc vd w hl hc hd hk hD e hb hq hq2
          · exact oneR_5 l k cols D vl vc vd w hl hc hd hk hD e hb hq hq2
          · exact oneR_6 l k cols D vl vc vd w hl hc hd hk hD e hb hq hq2
          · exact oneR_7 l k cols D vl vc vd w hl hc hd hk hD e hb hq hq2
          · exact oneR_8 l k cols D vl vc vd w hl hc hd hk hD e hb hq hq2
          · exact oneR_9 l k cols D vl vc vd w hl hc hd hk hD e hb hq hq2
        · exact oneR_b l k cols D vl vc vd w hl hc hd hk hD h hb hq hq2
      · exact oneR_a l k cols D vl vc vd w hl hc hd hk hD (.inr h) hb hq
def CrR (w : World) (l : List X) (cols : List Int) (r : Nat) (i : Value) (wr : World) : Prop := ∃ k : Nat, k ≤ r + 1 ∧ i = .int .i64 k ∧ Arr tKr.e w wr w.heap.size (fil (chs cols (l.take k)) (r + 1) (0, 0))
set_option maxHeartbeats 4000000 in
set_option maxRecDepth 100000 in
theorem check_ref (l : List X) (root : Int) (cols : List Int) (vl vc : Value) (w : World) (hl : RdG w vl l) (hc : RdG w vc cols) :
    Calls Try.prog 14 #[vl, .int .i64 root, vc] w fun e w' => e = .returned (.tuple #[.int .i64 (chkV l root cols).1, .int .i64 (chkV l root cols).2]) ∧ Ext w w' := by
  obtain ⟨al, cl, rfl, ll1, ll2⟩ := hl.shape
  obtain ⟨ac, cc, rfl, lc1, lc2⟩ := hc.shape
  have HL := Lib.hid hl
  have HC := Lib.hid hc
  clear hl hc
  unfold maxLen at ll2 lc2
  by_cases hlen : 200 < l.length
  · have H := Lib.hid (show chkV l root cols = (0, 4) by unfold chkV; rw [if_pos hlen])
    have hlen' : (200 : Int) < (l.length : Int) := by omega
    go_enter Try.func14, Try.ntmps14
    go_wp2_with fail
    go_ret2
    exact ⟨ret_k2 H.out, Ext.refl _⟩
  have hlen' : ¬ (200 : Int) < (l.length : Int) := by omega
  by_cases hneg : root < 0
  · have H := Lib.hid (show chkV l root cols = (0, 10) by unfold chkV; rw [if_neg hlen, if_pos ((isIx_no _ _).2 (.inl hneg))])
    go_enter Try.func14, Try.ntmps14
    go_wp2_with fail
    go_ret2
    exact ⟨ret_k2 H.out, Ext.refl _⟩
  by_cases hbig : (l.length : Int) ≤ root
  · have H := Lib.hid (show chkV l root cols = (0, 10) by unfold chkV; rw [if_neg hlen, if_pos ((isIx_no _ _).2 (.inr hbig))])
    go_enter Try.func14, Try.ntmps14
    go_wp2_with fail
    go_ret2
    exact ⟨ret_k2 H.out, Ext.refl _⟩
  obtain ⟨r, rfl⟩ := nat_of (show (0 : Int) ≤ root by omega)
  have hb : isIx (r : Int) l.length = true := (isIx_iff _ _).2 ⟨by omega, by omega⟩
  have hr : r < l.length := by omega
  have H := Lib.hid (show chkV l r cols = (chs cols (l.take (r + 1))).getD r (0, 0) by unfold chkV; rw [if_neg hlen, if_neg (by rw [hb]; decide), chs_take cols l (r + 1) r (by omega) (by omega)]; rfl)
  have HCl := Lib.hid (chs_clean cols (l.take (r + 1)) r)
  clear hb
  obtain ⟨n, hn⟩ : ∃ n, n = l.length := ⟨_, rfl⟩
  obtain ⟨m, hm⟩ : ∃ m, m = cols.length := ⟨_, rfl⟩
  have HN := Lib.hid hn
  have HM := Lib.hid hm
  rw [← hn] at HL ll1 hlen hlen' hr hbig ⊢
  rw [← hm] at HC lc1 ⊢
  clear hn hm
  have e1 : (0 : Int) ≤ (r : Int) + 1 := by omega
  go_enter Try.func14, Try.ntmps14
  go_wp2_with (at_make; refine makeG tKr rfl _ _ rfl w (Ext.refl _) ((r : Int) + 1) ((r : Int) + 1) (r + 1) rfl rfl (by omega) (by omega) (by omega) ?_; intro w1 hA hE1)
  have hB : w.heap.size < w1.heap.size := hA.lo.2
  go_loopw [9] (CrR w l cols r) (fun i _ => r + 1 - (intOf i).toNat)
  case atStart => exact ⟨0, by omega, rfl, by rw [List.take_zero]; show Arr tKr.e w w1 w.heap.size (fil [] (r + 1) (0, 0)); rw [fil_nil]; exact hA⟩
  case round =>
    obtain ⟨k, hk, rfl, hAr⟩ := hrel
    have hrn : r < l.length := by rw [← HN.out]; exact hr
    by_cases hlt : k < r + 1
    · have hkl : k < l.length := by omega
      have hi1 : (k : Int) ≤ (r : Int) := by omega
      have hi0 : (0 : Int) ≤ (k : Int) := by omega
      have hi4 : (k : Int) < ((r + 1 : Nat) : Int) := by omega
      have hi5 : (k : Int) < (r : Int) + 1 := by omega
      have hS := Lib.hid (chs_succ cols l k hkl)
      have hpl := chs_tlen cols l k (by omega)
      have hfl := fil_len (chs cols (l.take k)) (r + 1) ((0 : Int), (0 : Int)) (by omega)
      have hP := hAr.rd
      rw [hfl] at hP
      have hO := one_ref l k cols (fil (chs cols (l.take k)) (r + 1) (0, 0)) _ _ _ wr (HL.out.ext hAr.2) (HC.out.ext hAr.2) hP hkl (by rw [hfl]; omega)
      rw [fil_take _ _ _ _ hpl] at hO
      generalize hpr : chO l[k] (chs cols (l.take k)) cols = pq at *
      obtain ⟨p, q⟩ := pq
      have HPR := Lib.hid hpr
      have HO := Lib.hid hO
      have HAr := Lib.hid hAr
      clear hpr hO hP hAr
      go_wp2_with fail
      refine HO.out.mono ?_; rintro e w3 ⟨rfl, hE3⟩
      have hA3 := HAr.out.ext hE3
      obtain ⟨z0, z1⟩ := hA3.z2 hpl hlt
      have y0 := hA3.frozen (k * 2)
      have y1 := hA3.frozen (k * 2 + 1)
      have hs3 := hA3.lo.2
      have hA4 := hA3.put2 k p q (by rw [hfl]; omega)
      rw [fil_set _ _ _ _ _ hpl hlt] at hA4
      rw [← hS.out] at hA4
      have HA4 := Lib.hid hA4
      clear hA4
      go_wp2_with fail
      go_roundw
      case rel => exact ⟨k + 1, by omega, by go_num, HA4.out⟩
      case measure => simp [intOf]; omega
    · have hke : k = r + 1 := by omega
      subst hke
      have hpl := chs_tlen cols l (r + 1) (by omega)
      rw [fil_full _ _ _ hpl] at hAr
      have hrl : r < (chs cols (l.take (r + 1))).length := by rw [hpl]; omega
      have c0 := hAr.cell r 0 _ hrl rfl
      have c1 := hAr.cell r 1 _ hrl rfl
      have H2 := H.out.trans (getD_at _ _ r hrl)
      have hcl := HCl.out
      rw [atK_at _ _ hrl] at hcl
      generalize (chs cols (l.take (r + 1)))[r] = pq at *
      obtain ⟨p, q⟩ := pq
      simp only at hcl
      have D0 : wr.cell? ⟨w.heap.size, r * 2, none⟩ = some (.int .i64 p) := c0
      have D1 : wr.cell? ⟨w.heap.size, r * 2 + 1, none⟩ = some (.int .i64 q) := c1
      have hE := hAr.2
      have hi0 : (0 : Int) ≤ (r : Int) := by omega
      have hi1 : (r : Int) < (r : Int) + 1 := by omega
      have hi4 : (r : Int) < ((r + 1 : Nat) : Int) := by omega
      have hend : ¬ ((r + 1 : Nat) : Int) ≤ (r : Int) := by omega
      have hend' : decide (((r + 1 : Nat) : Int) ≤ (r : Int)) = false := by simpa using hend
      clear c0 c1
      by_cases hq : q = 0
      · subst hq
        have HH2 := Lib.hid H2
        clear hcl H2
        go_wp2_with fail
        go_ret2
        exact ⟨ret_k2 HH2.out, hE⟩
      · have hp : p = 0 := hcl hq
        subst hp
        have hq' : (q == 0) = false := by simpa using hq
        have HH2 := Lib.hid H2
        clear hcl H2
        go_wp2_with fail
        go_quiet (fail)
        go_wp2_with fail
        go_ret2
        exact ⟨ret_k2 HH2.out, hE⟩
end Go.Proofs.Ytdamlnfjhpmpmaa
