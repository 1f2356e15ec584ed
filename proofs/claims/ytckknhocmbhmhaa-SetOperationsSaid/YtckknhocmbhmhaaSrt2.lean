/- Contracts of the program's sortedValid, Normalize and Len. -/
import Derived.Test.YtckknhocmbhmhaaSrt
import Derived.Test.YtckknhocmbhmhaaMrg2
import Derived.Test.YtckknhocmbhmhaaPr0
namespace Go.Proofs.Ytckknhocmbhmhaa
open Go.ChangeShapes Go.WideShapes Go.ChangeAt Go.RowKit

def okF (l : List (Int × Int)) : List (Int × Int) := l.filter fun p => okV p.1 p.2
theorem okF_step {l : List (Int × Int)} {k : Nat} (h : k < l.length) : okF (l.take (k + 1)) = okF (l.take k) ++ if okV l[k].1 l[k].2 = true then [l[k]] else [] := by
  unfold okF
  rw [List.take_succ_eq_append_getElem h, List.filter_append]
  congr 1
  by_cases c : okV l[k].1 l[k].2 = true
  · rw [if_pos c]; simp [c]
  · rw [if_neg c]; simp [c]
theorem okF_len (l : List (Int × Int)) (k : Nat) : (okF (l.take k)).length ≤ k := Nat.le_trans (List.length_filter_le _ _) (by rw [List.length_take]; omega)
def SvPost (l : List (Int × Int)) (w : World) (e : Ending) (w' : World) : Prop := ∃ v L, e = .returned v ∧ SV L ∧ (∀ t, memB L t = memB l t) ∧ Own w w' v L
theorem sv_of {l L : List (Int × Int)} (hp : L.Perm (okF l)) (hs : L.Pairwise fun p q => p.1 ≤ q.1) : SV L ∧ ∀ t, memB L t = memB l t :=
  ⟨⟨fun p hq => (okV_iff _ _).1 (List.mem_filter.1 (hp.mem_iff.1 hq)).2, hs⟩, fun t => by rw [memB_perm hp, okF, memB_filter]⟩
set_option maxHeartbeats 8000000 in
theorem sv_per (l : List (Int × Int)) (v : Value) (w : World) (h : Rd w v l) (hl : l.length ≤ 4398046511104) : Calls Try.prog 29 #[v] w (SvPost l w) := by
  obtain ⟨ad, cap, rfl, hc, hm, _, hx⟩ := h
  have HX := Lib.hid hx
  obtain ⟨n, hn⟩ : ∃ n, n = l.length := ⟨_, rfl⟩
  have HN := Lib.hid hn
  rw [← hn]
  rw [← hn] at hl
  clear hx hn hc hm
  go_enter Try.func29, Try.ntmps29
  go_wp2_with fail
  go_loopw [3, 8] (fun u i wr => ∃ k : Nat, k ≤ n ∧ i = .int .i64 k ∧ Own w wr u (okF (l.take k))) (fun _ i _ => n - (intOf i).toNat)
  case atStart => exact ⟨0, by omega, rfl, Own.nil w w (Ext.refl _)⟩
  case round =>
    obtain ⟨k, hk, rfl, hO⟩ := hrel
    by_cases hlt : k < n
    · have hkl : k < l.length := by rw [← HN.out]; exact hlt
      obtain ⟨g, o, rfl, c0', c1'⟩ := HX.out k hkl
      have c0 := hO.2.keeps c0'
      have c1 := hO.2.keeps c1'
      have hi1 : (k : Int) < (n : Int) := by omega
      have hst := okF_step hkl
      have hfl := okF_len l k
      obtain ⟨x, y, hxy⟩ : ∃ x y, l[k] = (x, y) := ⟨_, _, rfl⟩
      rw [hxy] at c0 c1 hst
      simp only at c0 c1 hst
      clear c0' c1' hxy
      cases hv : okV x y
      · have HS := Lib.hid (show okF (l.take (k + 1)) = okF (l.take k) by rw [hst, hv]; simp)
        have HV := Lib.hid hv
        clear hv hst
        go_wp2_with fail
        refine (vpp_no _ _ _ HV.out).mono ?_; rintro e w6 ⟨rfl, hg6⟩
        have hO6 := (hO.ext ((Ext.refl _).alloc _ _)).ext (ext_of_grown hg6)
        clear c0 c1 hg6 hO
        go_wp2_with fail
        go_roundw
        case rel => exact ⟨k + 1, by omega, by go_num, by rw [HS.out]; exact hO6⟩
        case measure => simp [intOf]; omega
      · have HS := Lib.hid (show okF (l.take (k + 1)) = okF (l.take k) ++ [(x, y)] by rw [hst, hv]; simp)
        have HV := Lib.hid hv
        clear hv hst
        go_wp2_with fail
        refine (vpp_yes _ _ _ HV.out).mono ?_; rintro e w6 ⟨rfl, hg6⟩
        have b0 := kept hg6 (al0 _ _ _ _)
        have b1 := kept hg6 (al1 _ _ _ _)
        have hz : wr.heap.size < w6.heap.size := World.block_lt_of_cell? _ _ b0
        have hO6 := (hO.ext ((Ext.refl _).alloc _ _)).ext (ext_of_grown hg6)
        clear c0 c1 hg6 hO
        go_wp2_with (at_builtin; refine appR rfl _ _ rfl w _ (okF (l.take k)) rfl (hO6.ext ((Ext.refl _).alloc _ _)) _ [(x, y)] rfl (rd_lit1 _ x y _ _ rfl) (by simp; omega) ?_; intro v' w' hO' hg')
        go_roundw
        case rel => exact ⟨k + 1, by omega, by go_num, by rw [HS.out]; exact hO'⟩
        case measure => simp [intOf]; omega
    · have hkn : k = n := by omega
      have hall : l.take k = l := by rw [hkn, HN.out]; exact List.take_length
      have hfl := okF_len l k
      rw [hall] at hO hfl
      clear hall
      go_wp2_with fail
      refine (sort_per w _ _ _ hO (by omega)).mono ?_
      rintro e w6 ⟨rfl, L, hp, hs, hO6⟩
      go_wp2_with fail
      go_ret
      exact ⟨_, L, rfl, (sv_of hp hs).1, (sv_of hp hs).2, hO6⟩
set_option maxHeartbeats 2000000 in
theorem norm_per (l : List (Int × Int)) (v : Value) (w : World) (h : Rd w v l) (hl : l.length ≤ 4398046511104) : Calls Try.prog 14 #[v] w (SetPost (memB l) w) := by
  have H := Lib.hid h
  clear h
  go_enter Try.func14, Try.ntmps14
  go_wp2_with fail
  refine (sv_per l v w H.out hl).mono ?_
  rintro e w1 ⟨v1, L, rfl, hS, hM, hO⟩
  go_wp2_with fail
  refine (merge_per L v1 w1 hO.rd hS).mono ?_
  rintro e w2 ⟨v2, m, rfl, hN, hM2, ho, hE⟩
  go_wp2_with fail
  go_ret
  exact ⟨_, m, rfl, hN, fun t => (hM2 t).trans (hM t), ho, hO.2.trans hE⟩
theorem lenL_step {l : List (Int × Int)} {k : Nat} (h : k < l.length) : lenL (l.take (k + 1)) = lenL (l.take k) + (l[k].2 - l[k].1) := by
  rw [List.take_succ_eq_append_getElem h, lenL_append]; simp [lenL]
/-- the length of a set of points -/
def LenPost (P : Int → Bool) (w : World) (e : Ending) (w' : World) : Prop := ∃ l, NF l ∧ (∀ t, memB l t = P t) ∧ e = .returned (.int .i64 (lenL l)) ∧ Ext w w'
set_option maxHeartbeats 4000000 in
theorem len_per (l0 : List (Int × Int)) (v : Value) (w : World) (h : Rd w v l0) (hl : l0.length ≤ 4398046511104) : Calls Try.prog 16 #[v] w (LenPost (memB l0) w) := by
  have H := Lib.hid h
  clear h
  go_enter Try.func16, Try.ntmps16
  go_wp2_with fail
  refine (norm_per l0 v w H.out hl).mono ?_
  rintro e w1 ⟨v1, l, rfl, hN, hM, ho, hE⟩
  obtain ⟨ad, cap, rfl, hc, hm, _, hx⟩ := rd_of_owns ho
  have HX := Lib.hid hx
  have HNF := Lib.hid hN
  have HM := Lib.hid hM
  have hb := hN.len
  obtain ⟨n, hn⟩ : ∃ n, n = l.length := ⟨_, rfl⟩
  have HN := Lib.hid hn
  rw [← hn]
  rw [← hn] at hb
  clear hx hn hc hm hN hM ho
  go_wp2_with fail
  go_loopw [3, 9] (fun u i wr => ∃ k : Nat, k ≤ n ∧ i = .int .i64 k ∧ u = .int .i64 (lenL (l.take k)) ∧ Ext w1 wr) (fun _ i _ => n - (intOf i).toNat)
  case atStart => exact ⟨0, by omega, rfl, rfl, Ext.refl _⟩
  case round =>
    obtain ⟨k, hk, rfl, rfl, hX⟩ := hrel
    by_cases hlt : k < n
    · have hkl : k < l.length := by rw [← HN.out]; exact hlt
      obtain ⟨g, o, rfl, c0', c1'⟩ := HX.out k hkl
      have c0 := hX.keeps c0'
      have c1 := hX.keeps c1'
      have hi1 : (k : Int) < (n : Int) := by omega
      have hst := lenL_step hkl
      have hb0 := lenL_bd (HNF.out.take k)
      have hv := HNF.out.1 l[k] (List.getElem_mem _)
      generalize l[k].1 = x at c0 hst hv
      generalize l[k].2 = y at c1 hst hv
      have HS := Lib.hid hst
      clear c0' c1' hst
      generalize lenL (l.take k) = z at hb0 HS ⊢
      go_wp2_with fail
      go_roundw
      case rel => exact ⟨k + 1, by omega, by go_num, by rw [HS.out], hX.alloc _ _⟩
      case measure => simp [intOf]; omega
    · have hkn : k = n := by omega
      have hall : l.take k = l := by rw [hkn, HN.out]; exact List.take_length
      rw [hall]
      clear hall
      go_wp2_with fail
      go_ret
      exact ⟨l, HNF.out, HM.out, rfl, hE.trans hX⟩
end Go.Proofs.Ytckknhocmbhmhaa
