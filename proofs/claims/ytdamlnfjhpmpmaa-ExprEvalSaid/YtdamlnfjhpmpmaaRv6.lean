/- The reference's value of one expression, joined; its Eval; the law ExprEval. -/
import Derived.Test.YtdamlnfjhpmpmaaRv2b
import Derived.Test.YtdamlnfjhpmpmaaRv3
import Derived.Test.YtdamlnfjhpmpmaaRv4
import Derived.Test.YtdamlnfjhpmpmaaRv5
import Derived.Test.YtdamlnfjhpmpmaaRc3
import Derived.Test.YtdamlnfjhpmpmaaEv5
namespace Go.Proofs.Ytdamlnfjhpmpmaa
open Go.ChangeShapes Go.WideShapes Go.ChangeAt Go.RowKit

theorem evo_ref (l : List X) (k : Nat) (row D : List V) (vl vr vd : Value) (w : World) (hl : RdG w vl l) (hr : RdG w vr row) (hd : RdG w vd D) (hk : k < l.length) (hD : k ≤ D.length) (okD : OkR D) :
    Calls Try.prog 26 #[vl, .int .i64 k, vr, vd] w fun e w' => e = .returned (vv (evO l[k] (D.take k) row)) ∧ Ext w w' := by
  rcases ari_vals l[k].op with h | h | h | h
  · exact evlR_none l k row D vl vr vd w hl hr hd hk hD h
  · rcases ari_i0 h with e | e
    · exact evlR_1 l k row D vl vr vd w hl hr hd hk hD e
    · exact evlR_2 l k row D vl vr vd w hl hr hd hk hD e
  · cases hb : lgl l[k] k with
    | false => exact evlR_bad l k row D vl vr vd w hl hr hd hk hD (.inl h) hb
    | true =>
      rcases ari_i1 h with e | e
      · exact evlR_10 l k row D vl vr vd w hl hr hd hk hD e hb
      · exact evlR_11 l k row D vl vr vd w hl hr hd hk hD e hb
  · cases hb : lgl l[k] k with
    | false => exact evlR_bad l k row D vl vr vd w hl hr hd hk hD (.inr h) hb
    | true =>
      have := ari_i2 h
      rcases (show l[k].op = 3 ∨ l[k].op = 4 ∨ l[k].op = 5 ∨ l[k].op = 6 ∨ l[k].op = 7 ∨ l[k].op = 8 ∨ l[k].op = 9 by omega) with e | e | e | e | e | e | e
      · exact evlR_3 l k row D vl vr vd w hl hr hd hk hD e hb okD
      · exact evlR_4 l k row D vl vr vd w hl hr hd hk hD e hb okD
      · exact evlR_5 l k row D vl vr vd w hl hr hd hk hD e hb okD
      · exact evlR_6 l k row D vl vr vd w hl hr hd hk hD e hb
      · exact evlR_7 l k row D vl vr vd w hl hr hd hk hD e hb
      · exact evlR_8 l k row D vl vr vd w hl hr hd hk hD e hb
      · exact evlR_9 l k row D vl vr vd w hl hr hd hk hD e hb
def ErR (W : World) (g : Nat) (l : List X) (row : List V) (r : Nat) (i : Value) (wr : World) : Prop := ∃ k : Nat, k ≤ r + 1 ∧ i = .int .i64 k ∧ Arr tV.e W wr g (fil (evs row (l.take k)) (r + 1) nul)
theorem evs_tlen (row : List V) (l : List X) (k : Nat) (h : k ≤ l.length) : (evs row (l.take k)).length = k := by rw [evs_len, List.length_take]; omega
theorem okX_take {l : List X} (h : OkX l) (k : Nat) : OkX (l.take k) := fun x hx => h x (List.mem_of_mem_take hx)
theorem okR_fil {a : List V} (h : OkR a) (n : Nat) : OkR (fil a n nul) := by
  intro v hv
  unfold fil at hv
  rcases List.mem_append.1 hv with h1 | h1
  · exact h v h1
  · rw [(List.mem_replicate.1 h1).2]; exact okN_nul
set_option maxHeartbeats 4000000 in
set_option maxRecDepth 100000 in
theorem evalR_no (l : List X) (root : Int) (row : List V) (vl vr : Value) (w : World) (hl : RdG w vl l) (hb : root < 0 ∨ (¬ root < 0 ∧ (l.length : Int) ≤ root)) :
    Calls Try.prog 16 #[vl, .int .i64 root, vr] w fun e w' => e = .returned (vv (evlV l root row)) ∧ Ext w w' := by
  have H := Lib.hid (show evlV l root row = ⟨0, 0, []⟩ by unfold evlV; rw [if_pos ((isIx_no _ _).2 (hb.imp id (·.2)))]; rfl)
  obtain ⟨al, cl, rfl, ll1, ll2⟩ := hl.shape
  clear hl ll1 ll2
  rcases hb with hb | ⟨hb, hb2⟩
  all_goals
    go_enter Try.func16, Try.ntmps16
    go_wp2_with fail
    exact bodyPost_ret (v := vv ⟨0, 0, []⟩) (by simp [results, Try.results16, go_sem]) rfl ⟨ret_vv H.out.symm, by repeat (first | exact Ext.refl _ | refine Ext.alloc ?_ _ _ | refine Ext.setNew ?_ _ _ (by simp; try omega) _)⟩
set_option maxHeartbeats 4000000 in
set_option maxRecDepth 100000 in
theorem evalR_yes (l : List X) (r : Nat) (row : List V) (vl vr : Value) (w : World) (hl : RdG w vl l) (hrow : RdG w vr row) (hr : r < l.length) (hs : l.length ≤ 1000) (hx : OkX l) (ho : OkR row) :
    Calls Try.prog 16 #[vl, .int .i64 r, vr] w fun e w' => e = .returned (vv ((evs row l).getD r nul)) ∧ Ext w w' := by
  obtain ⟨al, cl, rfl, ll1, ll2⟩ := hl.shape
  obtain ⟨ar, cr, rfl, lr1, lr2⟩ := hrow.shape
  have H := Lib.hid (evs_take row l (r + 1) r (by omega) (by omega))
  have HL := Lib.hid hl
  have HR := Lib.hid hrow
  have HX := Lib.hid hx
  have HO := Lib.hid ho
  clear hl hrow hx ho ll1 ll2 lr1 lr2
  obtain ⟨n, hn⟩ : ∃ n, n = l.length := ⟨_, rfl⟩
  obtain ⟨m, hm⟩ : ∃ m, m = row.length := ⟨_, rfl⟩
  have HN := Lib.hid hn
  have HM := Lib.hid hm
  rw [← hn] at HL hr hs ⊢
  rw [← hm] at HR ⊢
  clear hn hm
  have e1 : (0 : Int) ≤ (r : Int) + 1 := by omega
  have d0 : decide ((r : Int) < 0) = false := by simp
  have d1 : decide ((n : Int) ≤ (r : Int)) = false := by simp; omega
  have d2 : decide (n ≤ r) = false := by simp; omega
  obtain ⟨k0, k1, k2⟩ := box3 w (.int .i64 0) (.int .i64 0) (.string ⟨#[]⟩) 34
  have hE0 : Ext w (w.alloc (.cells #[.int .i64 0, .int .i64 0, .string ⟨#[]⟩] 34)) := (Ext.refl _).alloc _ _
  have hf0 : ∀ o, (w.alloc (.cells #[.int .i64 0, .int .i64 0, .string ⟨#[]⟩] 34)).frozen? ⟨w.heap.size, o, none⟩ = false := fun o => by rw [frozen?_alloc_cells]; exact frozen_new _ _ _ (Nat.le_refl _)
  have hbs : (w.alloc (.cells #[.int .i64 0, .int .i64 0, .string ⟨#[]⟩] 34)).heap.size = w.heap.size + 1 := alsz _ _
  have K0 := Lib.hid k0
  have K1 := Lib.hid k1
  have K2 := Lib.hid k2
  have HE0 := Lib.hid hE0
  have HF0 := Lib.hid hf0
  have HBS := Lib.hid hbs
  clear k0 k1 k2 hE0 hf0 hbs
  go_enter Try.func16, Try.ntmps16
  go_wp2_with (at_make; refine makeG tV rfl _ _ rfl (w.alloc (.cells #[.int .i64 0, .int .i64 0, .string ⟨#[]⟩] 34)) (Ext.refl _) ((r : Int) + 1) ((r : Int) + 1) (r + 1) rfl rfl (by omega) (by omega) (by omega) ?_; intro w2 hA hE2; rw [HBS.out] at hA ⊢)
  have hw2 : w.heap.size + 1 < w2.heap.size := hA.lo.2
  go_loopw [8] (ErR (w.alloc (.cells #[.int .i64 0, .int .i64 0, .string ⟨#[]⟩] 34)) (w.heap.size + 1) l row r) (fun i _ => r + 1 - (intOf i).toNat)
  case atStart => exact ⟨0, by omega, rfl, by rw [List.take_zero]; show Arr tV.e (w.alloc (.cells #[.int .i64 0, .int .i64 0, .string ⟨#[]⟩] 34)) w2 (w.heap.size + 1) (fil [] (r + 1) nul); rw [fil_nil]; exact hA⟩
  case round =>
    clear hA hE2 hw2
    obtain ⟨k, hk, rfl, hAr⟩ := hrel
    have hrn : r < l.length := by rw [← HN.out]; exact hr
    by_cases hlt : k < r + 1
    · have hkl : k < l.length := by omega
      have hi1 : (k : Int) ≤ (r : Int) := by omega
      have hi0 : (0 : Int) ≤ (k : Int) := by omega
      have hi4 : (k : Int) < ((r + 1 : Nat) : Int) := by omega
      have hi5 : (k : Int) < (r : Int) + 1 := by omega
      have hS := Lib.hid (evs_succ row l k hkl)
      have hpl := evs_tlen row l k (by omega)
      have hfl := fil_len (evs row (l.take k)) (r + 1) nul (by omega)
      have hP := hAr.rd
      rw [hfl] at hP
      have hE1 : Ext w wr := HE0.out.trans hAr.2
      have hO := evo_ref l k row (fil (evs row (l.take k)) (r + 1) nul) _ _ _ wr (HL.out.ext hE1) (HR.out.ext hE1) hP hkl (by rw [hfl]; omega) (okR_fil (evs_ok row HO.out _ (okX_take HX.out k)) _)
      rw [fil_take _ _ _ _ hpl] at hO
      generalize hpr : evO l[k] (evs row (l.take k)) row = pq at *
      obtain ⟨p, q, t⟩ := pq
      have HPR := Lib.hid hpr
      have HOO := Lib.hid hO
      have HAr := Lib.hid hAr
      clear hpr hO hP hAr hE1
      go_wp2_with fail
      refine HOO.out.mono ?_; rintro e w3 ⟨rfl, hE3⟩
      have hA3 := HAr.out.ext hE3
      obtain ⟨z0, z1, z2⟩ := hA3.c3 k nul (by rw [hfl]; omega) (by rw [getD_at _ _ _ (by rw [hfl]; omega)]; exact fil_at _ _ _ _ hpl hlt _)
      have y0 := hA3.frozen (k * 3)
      have y1 := hA3.frozen (k * 3 + 1)
      have y2 := hA3.frozen (k * 3 + 2)
      have hs3 := hA3.lo.2
      have hA4 := hA3.put3 k p q t (by rw [hfl]; omega)
      rw [fil_set _ _ _ _ _ hpl hlt] at hA4
      rw [← hS.out] at hA4
      have HA4 := Lib.hid hA4
      clear hA4
      go_wp2_with fail
      go_roundw
      case rel => exact ⟨k + 1, by omega, by go_num, HA4.out⟩
      case measure => simp [intOf]; omega
    · have hke : k = r + 1 := by omega
      subst hke
      have hpl := evs_tlen row l (r + 1) (by omega)
      rw [fil_full _ _ _ hpl] at hAr
      obtain ⟨c0, c1, c2⟩ := hAr.c3 r _ (by rw [hpl]; omega) H.out
      generalize hpq : (evs row l).getD r nul = pq at *
      obtain ⟨p, q, t⟩ := pq
      have HQ := Lib.hid hpq
      clear hpq
      simp only at c0 c1 c2
      have d0 := hAr.2.keeps K0.out
      have d1 := hAr.2.keeps K1.out
      have d2 := hAr.2.keeps K2.out
      have df : ∀ o, wr.frozen? ⟨w.heap.size, o, none⟩ = false := fun o => by rw [hAr.2.2.1 ⟨w.heap.size, o, none⟩ (by simp)]; exact HF0.out o
      have d3 := df 0
      have d4 := df 1
      have d5 := df 2
      have hrs0 : w.heap.size + 1 < wr.heap.size := hAr.lo.2
      have hE := HE0.out.trans hAr.2
      have hi0 : (0 : Int) ≤ (r : Int) := by omega
      have hi1 : (r : Int) < (r : Int) + 1 := by omega
      have hi4 : (r : Int) < ((r + 1 : Nat) : Int) := by omega
      have hend' : decide (((r + 1 : Nat) : Int) ≤ (r : Int)) = false := by simp; omega
      clear hpl df
      go_wp2_with fail
      exact bodyPost_ret (v := vv ⟨p, q, t⟩) (by simp [results, Try.results16, go_sem, d0, d1, d2, vv]) rfl ⟨by rw [HQ.out], by repeat (first | exact hE | refine Ext.setNew ?_ _ _ (by simp; try omega) _)⟩
theorem eval_ref (l : List X) (root : Int) (row : List V) (vl vr : Value) (w : World) (hl : RdG w vl l) (hrow : RdG w vr row) (hs : l.length ≤ 1000) (hx : OkX l) (ho : OkR row) :
    Calls Try.prog 16 #[vl, .int .i64 root, vr] w fun e w' => e = .returned (vv (evlV l root row)) ∧ Ext w w' := by
  by_cases h0 : root < 0
  · exact evalR_no l root row vl vr w hl (.inl h0)
  by_cases h1 : (l.length : Int) ≤ root
  · exact evalR_no l root row vl vr w hl (.inr ⟨h0, h1⟩)
  obtain ⟨r, rfl⟩ := nat_of (show (0 : Int) ≤ root by omega)
  have hb : isIx (r : Int) l.length = true := (isIx_iff _ _).2 ⟨by omega, by omega⟩
  have e : evlV l r row = (evs row l).getD r nul := by unfold evlV; rw [if_neg (by rw [hb]; decide)]; rfl
  rw [e]
  exact evalR_yes l r row vl vr w hl hrow (by omega) hs hx ho
end Go.Proofs.Ytdamlnfjhpmpmaa
