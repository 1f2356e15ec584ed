/- Clones of slices; the program's comparison of slices of rows. -/
import Derived.Test.YtohpmbabegpefaaHd
import Derived.Lib.SliceRun
namespace Go.Proofs.Ytohpmbabegpefaa
open Go.ChangeShapes Go.WideShapes Go.ChangeAt Go.RowKit

set_option maxHeartbeats 1000000 in
set_option maxRecDepth 100000 in
theorem clone_P (l : List P) (v : Value) (w : World) (h : RdG w v l) (hl : l.length ≤ 1000000) :
    Calls Try.prog 40 #[v] w fun e w' => ∃ v', e = .returned v' ∧ OwnG tP.e w w' v' l := by
  have q : ∀ (w : World) (a : Option Addr) (n c n' c' : Nat), (binOp .eql 22 (.slice a n c) (.slice none n' c')).run Try.prog w = .ok (.bool a.isNone) w := fun w a n c n' c' => Lib.run_eql_slice_nil w _ _ a n c n' c' Try.underlying22
  obtain ⟨ad, cap, rfl, h1, h2, h3, _⟩ := id h
  unfold maxLen at h2
  have H := Lib.hid h
  have HL := Lib.hid hl
  clear h hl
  cases ad with
  | none =>
    obtain rfl := h3 rfl
    have hn : l = [] := List.eq_nil_of_length_eq_zero (by omega)
    subst hn
    clear h3 h1 h2
    go_enter Try.func40, Try.ntmps40
    go_wp2_with fail
    go_ret
    exact ⟨_, rfl, OwnG.nil _ _ _ (Ext.refl _)⟩
  | some ad =>
    obtain ⟨n, hn⟩ : ∃ n, n = l.length := ⟨_, rfl⟩
    have HN := Lib.hid hn
    rw [← hn] at H h1 ⊢
    clear hn h3
    go_enter Try.func40, Try.ntmps40
    go_wp2_with (at_builtin; refine appG tP rfl _ _ rfl w _ [] rfl (own_lit0 _ (Ext.refl _) _ rfl) _ l rfl (by rw [HN.out] at H; first | exact H.out.ext ((Ext.refl _).alloc _ _) | (rw [HN.out]; exact H.out.ext ((Ext.refl _).alloc _ _))) (by have := HL.out; simp; omega) ?_; intro v' w' hO' hg')
    go_ret
    exact ⟨_, rfl, by simpa using hO'⟩
set_option maxHeartbeats 1000000 in
set_option maxRecDepth 100000 in
theorem clone_V (l : List V) (v : Value) (w : World) (h : RdG w v l) (hl : l.length ≤ 1000000) :
    Calls Try.prog 38 #[v] w fun e w' => ∃ v', e = .returned v' ∧ OwnG tV.e w w' v' l := by
  have q : ∀ (w : World) (a : Option Addr) (n c n' c' : Nat), (binOp .eql 30 (.slice a n c) (.slice none n' c')).run Try.prog w = .ok (.bool a.isNone) w := fun w a n c n' c' => Lib.run_eql_slice_nil w _ _ a n c n' c' Try.underlying30
  obtain ⟨ad, cap, rfl, h1, h2, h3, _⟩ := id h
  unfold maxLen at h2
  have H := Lib.hid h
  have HL := Lib.hid hl
  clear h hl
  cases ad with
  | none =>
    obtain rfl := h3 rfl
    have hn : l = [] := List.eq_nil_of_length_eq_zero (by omega)
    subst hn
    clear h3 h1 h2
    go_enter Try.func38, Try.ntmps38
    go_wp2_with fail
    go_ret
    exact ⟨_, rfl, OwnG.nil _ _ _ (Ext.refl _)⟩
  | some ad =>
    obtain ⟨n, hn⟩ : ∃ n, n = l.length := ⟨_, rfl⟩
    have HN := Lib.hid hn
    rw [← hn] at H h1 ⊢
    clear hn h3
    go_enter Try.func38, Try.ntmps38
    go_wp2_with (at_builtin; refine appG tV rfl _ _ rfl w _ [] rfl (own_lit0 _ (Ext.refl _) _ rfl) _ l rfl (by rw [HN.out] at H; first | exact H.out.ext ((Ext.refl _).alloc _ _) | (rw [HN.out]; exact H.out.ext ((Ext.refl _).alloc _ _))) (by have := HL.out; simp; omega) ?_; intro v' w' hO' hg')
    go_ret
    exact ⟨_, rfl, by simpa using hO'⟩
set_option maxHeartbeats 1000000 in
set_option maxRecDepth 100000 in
theorem clone_I (l : List Int) (v : Value) (w : World) (h : RdG w v l) (hl : l.length ≤ 1000000) :
    Calls Try.prog 39 #[v] w fun e w' => ∃ v', e = .returned v' ∧ OwnG tI.e w w' v' l := by
  have q : ∀ (w : World) (a : Option Addr) (n c n' c' : Nat), (binOp .eql 27 (.slice a n c) (.slice none n' c')).run Try.prog w = .ok (.bool a.isNone) w := fun w a n c n' c' => Lib.run_eql_slice_nil w _ _ a n c n' c' Try.underlying27
  obtain ⟨ad, cap, rfl, h1, h2, h3, _⟩ := id h
  unfold maxLen at h2
  have H := Lib.hid h
  have HL := Lib.hid hl
  clear h hl
  cases ad with
  | none =>
    obtain rfl := h3 rfl
    have hn : l = [] := List.eq_nil_of_length_eq_zero (by omega)
    subst hn
    clear h3 h1 h2
    go_enter Try.func39, Try.ntmps39
    go_wp2_with fail
    go_ret
    exact ⟨_, rfl, OwnG.nil _ _ _ (Ext.refl _)⟩
  | some ad =>
    obtain ⟨n, hn⟩ : ∃ n, n = l.length := ⟨_, rfl⟩
    have HN := Lib.hid hn
    rw [← hn] at H h1 ⊢
    clear hn h3
    go_enter Try.func39, Try.ntmps39
    go_wp2_with (at_builtin; refine appG tI rfl _ _ rfl w _ [] rfl (own_lit0 _ (Ext.refl _) _ rfl) _ l rfl (by rw [HN.out] at H; first | exact H.out.ext ((Ext.refl _).alloc _ _) | (rw [HN.out]; exact H.out.ext ((Ext.refl _).alloc _ _))) (by have := HL.out; simp; omega) ?_; intro v' w' hO' hg')
    go_ret
    exact ⟨_, rfl, by simpa using hO'⟩
set_option maxHeartbeats 4000000 in
set_option maxRecDepth 100000 in
theorem cfr_gw (ps qs : List P) (va vb : Value) (w : World) (hra : RdG w va ps) (hrb : RdG w vb qs) (hia : RdAll w ps) (hib : RdAll w qs) :
    Calls Try.prog 28 #[va, vb, .func (.func 29) #[] #[]] w fun e w' => e = .returned (.int .i64 (lexC cmpW (rows ps) (rows qs))) ∧ Gw w w' := by
  obtain ⟨ad, cap, rfl, h1, h2⟩ := hra.shape
  obtain ⟨bd, bcap, rfl, i1, i2⟩ := hrb.shape
  have H4 := Lib.hid hra
  have I4 := Lib.hid hrb
  have HA := Lib.hid hia
  have HB := Lib.hid hib
  clear hra hrb hia hib
  obtain ⟨n, hn⟩ : ∃ n, n = ps.length := ⟨_, rfl⟩
  obtain ⟨m, hm⟩ : ∃ m, m = qs.length := ⟨_, rfl⟩
  have HN := Lib.hid hn
  have HM := Lib.hid hm
  rw [← hn] at h1 H4 ⊢
  rw [← hm] at i1 I4 ⊢
  clear hn hm
  have HLA := Lib.hid (show (rows ps).length = n by rw [rows_len, HN.out])
  have HLB := Lib.hid (show (rows qs).length = m by rw [rows_len, HM.out])
  unfold maxLen at h2 i2
  go_enter Try.func28, Try.ntmps28
  go_wp2_with fail
  go_loopw [13] (CgR w (rows ps) (rows qs)) (fun i _ => n - (intOf i).toNat)
  case atStart => exact ⟨0, Nat.zero_le _, Nat.zero_le _, rfl, Lib.hid (by simp), Gw.refl _⟩
  case round =>
    obtain ⟨k, hk, hkb, rfl, HT, hE⟩ := hrel
    have hkn : k ≤ n := by rw [← HLA.out]; exact hk
    have hkm : k ≤ m := by rw [← HLB.out]; exact hkb
    by_cases hlt : k < n
    · have hlt' : k < ps.length := by rw [← HN.out]; exact hlt
      have hltr : k < (rows ps).length := by rw [rows_len]; exact hlt'
      obtain ⟨g, o, rfl, c0', c1'⟩ := rd_P H4.out k hlt'
      have c0 := hE.ext.keeps c0'
      have c1 := hE.ext.keeps c1'
      have hix := (HA.out ps[k] (List.getElem_mem _)).ext hE.ext
      have hrx := rows_at ps k hlt'
      clear c0' c1'
      by_cases hlt2 : k < m
      · have hlt2' : k < qs.length := by rw [← HM.out]; exact hlt2
        have hltr2 : k < (rows qs).length := by rw [rows_len]; exact hlt2'
        obtain ⟨g2, o2, rfl, d0', d1'⟩ := rd_P I4.out k hlt2'
        have d0 := hE.ext.keeps d0'
        have d1 := hE.ext.keeps d1'
        have hiy := (HB.out qs[k] (List.getElem_mem _)).ext hE.ext
        have hry := rows_at qs k hlt2'
        have HC := Lib.hid (lx_at cw_ord (rows ps) (rows qs) k hltr hltr2 HT.out)
        have HX := Lib.hid (lx_next cw_ord (rows ps) (rows qs) k hltr hltr2 HT.out)
        rw [hrx, hry] at HC HX
        have hg2 : g2 < wr.heap.size := World.block_lt_of_cell? _ _ d0
        clear d0' d1' hrx hry
        generalize ps[k] = x at *
        generalize qs[k] = y at *
        obtain ⟨⟨xa, xn, xc, xb, xm, xd⟩, xr⟩ := x
        obtain ⟨⟨ya, yn, yc, yb, ym, yd⟩, yr⟩ := y
        simp only [Hd.x, Hd.y] at c0 c1 d0 d1
        have hcv := fun w2 (hg : Gw wr w2) => comp_gw xr yr _ _ _ _ w2 (hix.1.ext hg.ext) (hix.2.ext hg.ext) (hiy.1.ext hg.ext) (hiy.2.ext hg.ext)
        clear hix hiy
        simp only [Hd.x, Hd.y] at hcv
        by_cases hz : cmpW xr yr = 0
        · rw [hz] at hcv
          have HV := Lib.hid hcv
          have HX' := Lib.hid (HX.out hz)
          clear hcv hz
          go_wp2_with fail
          refine (HV.out _ (gw2 _ _ _)).mono ?_; rintro e w1 ⟨rfl, hg⟩
          go_wp2_with fail
          go_roundw
          case rel => exact ⟨k + 1, hltr, hltr2, by go_num, HX', (hE.trans (gw2 _ _ _)).trans hg⟩
          case measure => simp [intOf]; omega
        · have HV := Lib.hid hcv
          have HR := Lib.hid (show lexC cmpW (rows ps) (rows qs) = cmpW xr yr by rw [HC.out, if_neg hz])
          have hz1 : (cmpW xr yr == 0) = false := by simpa using hz
          clear hcv
          go_wp2_with fail
          refine (HV.out _ (gw2 _ _ _)).mono ?_; rintro e w1 ⟨rfl, hg⟩
          go_wp2_with fail
          go_ret
          exact ⟨ret_int HR.out.symm, (hE.trans (gw2 _ _ _)).trans hg⟩
      · have HR := Lib.hid (show lexC cmpW (rows ps) (rows qs) = 1 by rw [lx_end cw_ord _ _ k hk hkb HT.out (Or.inr (by have := HLB.out; omega)), if_neg (by have := HLA.out; have := HLB.out; omega), if_pos (by have := HLA.out; have := HLB.out; omega)])
        generalize ps[k] = x at *
        obtain ⟨⟨xa, xn, xc, xb, xm, xd⟩, xr⟩ := x
        simp only [Hd.x, Hd.y] at c0 c1
        go_wp2_with fail
        go_ret
        exact ⟨ret_int HR.out.symm, hE.alloc _⟩
    · have hR := lx_end cw_ord (rows ps) (rows qs) k hk hkb HT.out (Or.inl (by have := HLA.out; omega))
      by_cases hnm : n < m
      · have HR := Lib.hid (show lexC cmpW (rows ps) (rows qs) = -1 by rw [hR, if_pos (by rw [HLA.out, HLB.out]; exact hnm)])
        clear hR
        go_wp2_with fail
        go_ret
        exact ⟨ret_int HR.out.symm, hE⟩
      · have HR := Lib.hid (show lexC cmpW (rows ps) (rows qs) = 0 by rw [hR, if_neg (by rw [HLA.out, HLB.out]; exact hnm), if_neg (by have := HLA.out; have := HLB.out; omega)])
        clear hR
        go_wp2_with fail
        go_ret
        exact ⟨ret_int HR.out.symm, hE⟩
end Go.Proofs.Ytohpmbabegpefaa
