/- The law ExprShared. -/
import Derived.Test.YtdamlnfjhpmpmaaLx1
import Derived.Test.YtdamlnfjhpmpmaaSh7
namespace Go.Proofs.Ytdamlnfjhpmpmaa
open Go.ChangeShapes Go.WideShapes Go.ChangeAt Go.RowKit

theorem own_litG {α : Type} [Enc α] (w : World) (l : List α) (c : Array Value) (t : TypeId) (n k : Nat) (hn : n = w.heap.size) (hk : k = l.length) (hl : l.length ≤ 1000) (hc : c.toList = cellsG l) : OwnG t w (w.alloc (.cells c t)) (.slice (some ⟨n, 0, none⟩) k k) l := by
  subst hn hk
  refine ⟨?_, (Ext.refl _).alloc _ _⟩
  have := World.ownsRow_lit (base := w.heap.size) (e := t) (size := Enc.sz α) w c l.length (Nat.le_refl _) (by unfold maxLen; omega) (by rw [← Array.length_toList, hc, cellsG_len])
  rw [hc] at this; exact this
def ShR (W : World) (k : Nat) (v i : Value) (wr : World) : Prop := ∃ j : Nat, j ≤ k ∧ i = .int .i64 j ∧ OwnG tX.e W wr v (dl j)
def WaR (W : World) (b : Nat) (x : Int) (k : Nat) (i : Value) (wr : World) : Prop := ∃ (j : Nat) (p q : Int), j ≤ k ∧ i = .int .i64 j ∧ dbl x j = ⟨p, q, []⟩ ∧ wr.cell? ⟨b, 0, none⟩ = some (.int .i64 p) ∧ wr.cell? ⟨b, 1, none⟩ = some (.int .i64 q) ∧ wr.cell? ⟨b, 2, none⟩ = some (.string ⟨#[]⟩) ∧
  (∀ o, wr.frozen? ⟨b, o, none⟩ = false) ∧ b < wr.heap.size ∧ Ext W wr
theorem set3_at {wr : World} {b : Nat} {u0 u1 u2 : Value} (c0 : wr.cell? ⟨b, 0, none⟩ = some u0) (c1 : wr.cell? ⟨b, 1, none⟩ = some u1) (c2 : wr.cell? ⟨b, 2, none⟩ = some u2) (v0 v1 v2 : Value) :
    (((wr.setCell ⟨b, 0, none⟩ v0).setCell ⟨b, 1, none⟩ v1).setCell ⟨b, 2, none⟩ v2).cell? ⟨b, 0, none⟩ = some v0 ∧ (((wr.setCell ⟨b, 0, none⟩ v0).setCell ⟨b, 1, none⟩ v1).setCell ⟨b, 2, none⟩ v2).cell? ⟨b, 1, none⟩ = some v1 ∧ (((wr.setCell ⟨b, 0, none⟩ v0).setCell ⟨b, 1, none⟩ v1).setCell ⟨b, 2, none⟩ v2).cell? ⟨b, 2, none⟩ = some v2 := by
  refine ⟨?_, ?_, ?_⟩
  · rw [World.cell?_setCell_other _ _ _ _ (by simp), World.cell?_setCell_other _ _ _ _ (by simp)]; exact World.cell?_setCell_same _ _ _ c0
  · rw [World.cell?_setCell_other _ _ _ _ (by simp)]; exact World.cell?_setCell_same _ _ _ (u := u1) (by rw [World.cell?_setCell_other _ _ _ _ (by simp)]; exact c1)
  · exact World.cell?_setCell_same _ _ _ (u := u2) (by rw [World.cell?_setCell_other _ _ _ _ (by simp), World.cell?_setCell_other _ _ _ _ (by simp)]; exact c2)
set_option maxHeartbeats 8000000 in
set_option maxRecDepth 100000 in
theorem shared_main (n x : Int) (k : Nat) (w : World) (hn0 : 0 ≤ n) (hn1 : n ≤ 255) (hx0 : -128 ≤ x) (hx1 : x ≤ 127) (hk : n.tmod 199 = k) (hk2 : k < 199) :
    Calls Try.prog 10 #[.int .u8 n, .int .i8 x] w fun e w' => e = .returned (.bool true) ∧ Ext w w' := by
  have hok : okN x := by unfold okN; omega
  have hEv := fun vl vr w' a b => eval_prg (dl k) k [⟨1, x, []⟩] vl vr w' a b (by rw [dl_len]; omega) (dl_ok k) (by intro v hv; simp at hv; subst hv; exact hok)
  have hCk := fun vl vc w' a b => check_prg (dl k) k [1] vl vc w' a b
  have hCo := fun vl w' a => col_prg (dl k) k vl w' a (by rw [dl_len]; omega)
  rw [dl_evl] at hEv
  rw [dl_chk k hk2] at hCk
  have hdc := dbl_cases x hok
  obtain ⟨pk, pn, hd⟩ : ∃ p q, dbl x k = ⟨p, q, []⟩ := by rcases hdc k with ⟨m, e, _⟩ | e; exact ⟨1, m, e⟩; exact ⟨0, 0, e⟩
  rw [hd] at hEv
  have HEv := Lib.hid hEv
  have HCk := Lib.hid hCk
  have HCo := Lib.hid hCo
  have HDC := Lib.hid hdc
  have HD := Lib.hid hd
  clear hEv hCk hCo hdc hd hok
  go_enter Try.func10, Try.ntmps10
  go_wp2_with fail
  clear hk hn0 hn1
  go_loopw [6, 7] (ShR w k) (fun _ i _ => k - (intOf i).toNat)
  case atStart => exact ⟨0, by omega, rfl, own_litG w (dl 0) _ _ _ _ rfl rfl (by decide) rfl⟩
  case round =>
    obtain ⟨j, hj, rfl, hO⟩ := hrel
    by_cases hlt : j < k
    · have hi1 : (j : Int) < (k : Int) := by omega
      have HS := Lib.hid (dl_succ j)
      have HL := Lib.hid (dl_len j)
      go_wp2_with (at_builtin; refine appG tX rfl _ _ rfl w _ (dl j) rfl (hO.ext ((Ext.refl _).alloc _ _)) _ [dlX j] rfl (rd_litG _ [dlX j] _ _ _ _ rfl rfl (by simp) rfl) (by have := HL.out; simp; omega) ?_; intro v' w' hO' hg')
      go_roundw
      case rel => exact ⟨j + 1, by omega, by go_num, by rw [HS.out]; exact hO'⟩
      case measure => simp [intOf]; omega
    · have hje : j = k := by omega
      subst hje
      have hend : decide ((j : Int) < (j : Int)) = false := by simp
      obtain ⟨al, cl, rfl, _, _⟩ := hO.rd.shape
      generalize (dl j).length = nn at hO ⊢
      have HO := Lib.hid hO
      have hR1 : RdG (wr.alloc (.cells #[.int .i64 1, .int .i64 x, .string ⟨#[]⟩] 34)) (.slice (some ⟨wr.heap.size, 0, none⟩) 1 1) [(⟨1, x, []⟩ : V)] := rd_litG wr [(⟨1, x, []⟩ : V)] _ _ _ _ rfl rfl (by simp) rfl
      have HR1 := Lib.hid hR1
      clear hO hR1
      obtain ⟨k, hk⟩ : ∃ k', k' = j := ⟨_, rfl⟩
      subst hk
      go_wp2_with fail
      refine (HEv.out _ _ _ (HO.out.rd.ext ((Ext.refl _).alloc _ _)) HR1.out).mono ?_; rintro e w4 ⟨rfl, hE4⟩
      have E4 := Lib.hid ((Ext.alloc (Ext.refl wr) _ _).trans hE4)
      have z0 := al_c w4 #[.int .i64 pk, .int .i64 pn, .string ⟨#[]⟩] 34 0 _ rfl
      have z1 := al_c w4 #[.int .i64 pk, .int .i64 pn, .string ⟨#[]⟩] 34 1 _ rfl
      have z2 := al_c w4 #[.int .i64 pk, .int .i64 pn, .string ⟨#[]⟩] 34 2 _ rfl
      have Z0 := Lib.hid z0
      have Z1 := Lib.hid z1
      have Z2 := Lib.hid z2
      clear hE4 z0 z1 z2
      go_wp2_with fail
      obtain ⟨wA, rfl⟩ : ∃ x, x = wr := ⟨_, rfl⟩
      go_loopw [10] (WaR (w4.alloc (.cells #[.int .i64 pk, .int .i64 pn, .string ⟨#[]⟩] 34)) (w4.heap.size + 1) x k) (fun i _ => k - (intOf i).toNat)
      case atStart =>
        have y := fun jj vv hh => al_c (w4.alloc (.cells #[.int .i64 pk, .int .i64 pn, .string ⟨#[]⟩] 34)) #[.int .i64 1, .int .i64 x, .string ⟨#[]⟩] 34 jj vv hh
        rw [alsz] at y
        exact ⟨0, 1, x, by omega, rfl, rfl, y 0 _ rfl, y 1 _ rfl, y 2 _ rfl, fun o => by rw [frozen?_alloc_cells]; exact frozen_new _ _ _ (by rw [alsz]; omega), by simp, (Ext.refl _).alloc _ _⟩
      case round =>
        obtain ⟨jj, p, q, hjj, rfl, hdj, c0, c1, c2, cf, cb, hEE⟩ := hrel
        have y0 := cf 0
        have y1 := cf 1
        have y2 := cf 2
        by_cases hl2 : jj < k
        · have hi2 : (jj : Int) < (k : Int) := by omega
          rcases HDC.out jj with ⟨m, em, om⟩ | em
          · rw [hdj] at em
            injection em with e1 e2
            subst e1 e2
            unfold okN at om
            by_cases o1 : 4611686018427387903 < q
            · have d1 : decide (4611686018427387903 < q) = true := decide_eq_true o1
              have hs := dbl_over x jj q hdj (.inl o1)
              have HS := Lib.hid hs
              clear hs om o1
              go_wp2_with fail
              go_roundw
              case rel =>
                obtain ⟨t0, t1, t2⟩ := set3_at c0 c1 c2 (.int .i64 0) (.int .i64 0) (.string ⟨#[]⟩)
                exact ⟨jj + 1, 0, 0, by omega, by go_num, HS.out, t0, t1, t2, fun o => by simp [cf o], by simpa using cb, ((hEE.setNew _ _ (by simp) _).setNew _ _ (by simp) _).setNew _ _ (by simp) _⟩
              case measure => simp [intOf]; omega
            have d1 : decide (4611686018427387903 < q) = false := decide_eq_false o1
            by_cases o2 : q < -4611686018427387904
            · have d2 : decide (q < -4611686018427387904) = true := decide_eq_true o2
              have hs := dbl_over x jj q hdj (.inr o2)
              have HS := Lib.hid hs
              clear hs om o1 o2
              go_wp2_with fail
              go_roundw
              case rel =>
                obtain ⟨t0, t1, t2⟩ := set3_at c0 c1 c2 (.int .i64 0) (.int .i64 0) (.string ⟨#[]⟩)
                exact ⟨jj + 1, 0, 0, by omega, by go_num, HS.out, t0, t1, t2, fun o => by simp [cf o], by simpa using cb, ((hEE.setNew _ _ (by simp) _).setNew _ _ (by simp) _).setNew _ _ (by simp) _⟩
              case measure => simp [intOf]; omega
            · have d2 : decide (q < -4611686018427387904) = false := decide_eq_false o2
              have hs := dbl_fit x jj q hdj (by omega) (by omega)
              have hw : wrap64 (2 * q) = 2 * q := by unfold wrap64; omega
              have HS := Lib.hid hs
              clear hs om o1 o2
              go_wp2_with fail
              go_roundw
              case rel =>
                have t0 : (wr.setCell ⟨w4.heap.size + 1, 1, none⟩ (.int .i64 (2 * q))).cell? ⟨w4.heap.size + 1, 0, none⟩ = some (.int .i64 1) := by rw [World.cell?_setCell_other _ _ _ _ (by simp)]; exact c0
                have t1 : (wr.setCell ⟨w4.heap.size + 1, 1, none⟩ (.int .i64 (2 * q))).cell? ⟨w4.heap.size + 1, 1, none⟩ = some (.int .i64 (2 * q)) := World.cell?_setCell_same _ _ _ c1
                have t2 : (wr.setCell ⟨w4.heap.size + 1, 1, none⟩ (.int .i64 (2 * q))).cell? ⟨w4.heap.size + 1, 2, none⟩ = some (.string ⟨#[]⟩) := by rw [World.cell?_setCell_other _ _ _ _ (by simp)]; exact c2
                exact ⟨jj + 1, 1, 2 * q, by omega, by go_num, HS.out, t0, t1, t2, fun o => by simp [cf o], by simpa using cb, hEE.setNew _ _ (by simp) _⟩
              case measure => simp [intOf]; omega
          · rw [hdj] at em
            injection em with e1 e2
            subst e1 e2
            have hfin := HD.out.symm.trans (dbl_stays x jj hdj k (by omega))
            injection hfin with f1 f2
            subst f1 f2
            have hE := hEE
            have RL2 := Lib.hid ((HO.out.ext (E4.out.trans (Ext.alloc (Ext.refl _) _ _))).ext hE).rd
            have B80 := hE.keeps Z0.out
            have B81 := hE.keeps Z1.out
            have B82 := hE.keeps Z2.out
            have HE := Lib.hid hE
            clear hE hEE
            have hI1 : RdG (wr.alloc (.cells #[.int .i64 1] 3)) (.slice (some ⟨wr.heap.size, 0, none⟩) 1 1) [(1 : Int)] := rd_lit1I _ 1 _ _ rfl
            have HI1 := Lib.hid hI1
            clear hI1
            go_wp2_with fail
            refine (HCk.out _ _ _ (RL2.out.ext ((Ext.refl _).alloc _ _)) HI1.out).mono ?_; rintro e w5 ⟨rfl, hE5⟩
            have E5 := Lib.hid ((Ext.alloc (Ext.refl _) _ _).trans hE5)
            clear hE5
            go_wp2_with fail
            refine (HCo.out _ _ (RL2.out.ext E5.out)).mono ?_; rintro e w6 ⟨vc, cs, rfl, rc, hE6, asc, hm⟩
            obtain rfl := dl_cols k cs asc hm
            have E6 := Lib.hid (E5.out.trans hE6)
            obtain ⟨ac, cc, rfl, _, _⟩ := rc.shape
            obtain ⟨gc, oc, rfl, kc⟩ := rd_I rc 0 (by simp)
            have KC := Lib.hid kc
            clear hE6 asc hm rc kc
            go_wp2_with fail
            refine (awake_law _).mono ?_; rintro e w7 ⟨rfl, hE7⟩
            have E7 := Lib.hid (E6.out.trans hE7)
            have kc : w7.cell? ⟨gc, oc, none⟩ = some (.int .i64 0) := hE7.keeps KC.out
            have p0 := E7.out.keeps B80
            have p1 := E7.out.keeps B81
            have p2 := E7.out.keeps B82
            have r0 := E7.out.keeps c0
            have r1 := E7.out.keeps c1
            have r2 := E7.out.keeps c2
            have hzz : (0 : Int) < ((List.length [(0 : Int)] : Nat) : Int) := by decide
            clear hE7 B80 B81 B82 c0 c1 c2
            go_wp2_with fail
            go_ret
            exact ⟨by simp, (HO.out.2.trans (E4.out.trans (Ext.alloc (Ext.refl _) _ _))).trans (HE.out.trans E7.out)⟩
        · have hje : jj = k := by omega
          subst hje
          have hend : decide ((jj : Int) < (jj : Int)) = false := by simp
          have hfin := HD.out.symm.trans hdj
          injection hfin with f1 f2
          subst f1 f2
          obtain ⟨k, hk⟩ : ∃ k', k' = jj := ⟨_, rfl⟩
          subst hk
          have hE := hEE
          have RL2 := Lib.hid ((HO.out.ext (E4.out.trans (Ext.alloc (Ext.refl _) _ _))).ext hE).rd
          have B80 := hE.keeps Z0.out
          have B81 := hE.keeps Z1.out
          have B82 := hE.keeps Z2.out
          have HE := Lib.hid hE
          clear hE hEE
          have hI1 : RdG (wr.alloc (.cells #[.int .i64 1] 3)) (.slice (some ⟨wr.heap.size, 0, none⟩) 1 1) [(1 : Int)] := rd_lit1I _ 1 _ _ rfl
          have HI1 := Lib.hid hI1
          clear hI1
          go_wp2_with fail
          refine (HCk.out _ _ _ (RL2.out.ext ((Ext.refl _).alloc _ _)) HI1.out).mono ?_; rintro e w5 ⟨rfl, hE5⟩
          have E5 := Lib.hid ((Ext.alloc (Ext.refl _) _ _).trans hE5)
          clear hE5
          go_wp2_with fail
          refine (HCo.out _ _ (RL2.out.ext E5.out)).mono ?_; rintro e w6 ⟨vc, cs, rfl, rc, hE6, asc, hm⟩
          obtain rfl := dl_cols k cs asc hm
          have E6 := Lib.hid (E5.out.trans hE6)
          obtain ⟨ac, cc, rfl, _, _⟩ := rc.shape
          obtain ⟨gc, oc, rfl, kc⟩ := rd_I rc 0 (by simp)
          have KC := Lib.hid kc
          clear hE6 asc hm rc kc
          go_wp2_with fail
          refine (awake_law _).mono ?_; rintro e w7 ⟨rfl, hE7⟩
          have E7 := Lib.hid (E6.out.trans hE7)
          have kc : w7.cell? ⟨gc, oc, none⟩ = some (.int .i64 0) := hE7.keeps KC.out
          have p0 := E7.out.keeps B80
          have p1 := E7.out.keeps B81
          have p2 := E7.out.keeps B82
          have r0 := E7.out.keeps c0
          have r1 := E7.out.keeps c1
          have r2 := E7.out.keeps c2
          have hzz : (0 : Int) < ((List.length [(0 : Int)] : Nat) : Int) := by decide
          clear hE7 B80 B81 B82 c0 c1 c2
          go_wp2_with fail
          go_ret
          exact ⟨by simp, (HO.out.2.trans (E4.out.trans (Ext.alloc (Ext.refl _) _ _))).trans (HE.out.trans E7.out)⟩
theorem law_ExprShared (n x : Int) (w : World) (hn0 : 0 ≤ n) (hn1 : n ≤ 255) (hx0 : -128 ≤ x) (hx1 : x ≤ 127) :
    Calls Try.prog 10 #[.int .u8 n, .int .i8 x] w fun e w' => e = .returned (.bool true) ∧ Ext w w' := by
  have h0 : 0 ≤ n.tmod 199 := Int.tmod_nonneg _ hn0
  have h1 : n.tmod 199 < 199 := Int.tmod_lt_of_pos _ (by decide)
  exact shared_main n x (n.tmod 199).toNat w hn0 hn1 hx0 hx1 (by omega) (by omega)
end Go.Proofs.Ytdamlnfjhpmpmaa
