/- Format of the reference. -/
import Derived.Test.YtejgmiljjpgbpaaDoorVw3
namespace Go.Proofs.YtejgmiljjpgbpaaDoor
open Go.ChangeShapes Go.WideShapes Go.ChangeAt Go.RowKit

theorem dbl_take (s : List UInt8) (k : Nat) (h : k < s.length) : dbl (s.take (k + 1)) = dbl (s.take k) ++ (if s[k] = 39 then [39, 39] else [s[k]]) := by
  rw [List.take_succ_eq_append_getElem h, dbl_app]
  congr 1
theorem al3 (w : World) (a b c : Value) (t : TypeId) : (w.alloc (.cells #[a, b, c] t)).cell? ⟨w.heap.size, 2, none⟩ = some c := by rw [World.cell?, (MapKept.heap_alloc w _).1]; rfl
def FmtR (w1 : World) (s : List UInt8) (b i : Value) (wr : World) : Prop := ∃ k : Nat, k ≤ s.length ∧ i = .int .i64 k ∧ OwnB w1 wr b (39 :: dbl (s.take k))
set_option maxHeartbeats 2000000 in
set_option maxRecDepth 100000 in
theorem fmt_ref (v : V) (w : World) (h0 : -9223372036854775808 ≤ v.n) (h1 : v.n ≤ 9223372036854775807) : Calls Tryd.prog 17 #[vv v] w fun e w' => e = .returned (sv (fmtV v)) ∧ Ext w w' := by
  obtain ⟨k, n, s⟩ := v
  simp only at h0 h1
  cases hv : vldB ⟨k, n, s⟩
  · have HV := Lib.hid hv
    have HR := Lib.hid (show fmtV ⟨k, n, s⟩ = [] by unfold fmtV; rw [hv]; rfl)
    clear hv
    go_enter Tryd.func17, Tryd.ntmps17
    go_wp2_with fail
    refine (vlr_no ⟨k, n, s⟩ _ HV.out).mono ?_; rintro e w1 ⟨rfl, hg⟩
    go_wp2_with fail
    go_ret
    exact ⟨ret_sv HR.out.symm, ext_of_grown (grown_trans ((Grown.refl _).alloc _ _) hg)⟩
  · have HV := Lib.hid hv
    have hv' := hv
    unfold vldB at hv
    simp only [decide_eq_true_eq] at hv
    rcases hv with ⟨rfl, rfl, rfl⟩ | ⟨rfl, rfl⟩ | ⟨rfl, rfl, hs⟩ | ⟨rfl, rfl | rfl, rfl⟩
    · clear hv'
      go_enter Tryd.func17, Tryd.ntmps17
      go_wp2_with fail
      refine (vlr_yes ⟨0, 0, []⟩ _ HV.out).mono ?_; rintro e w1 ⟨rfl, hg⟩
      obtain ⟨hc, hf⟩ := gcell hg
      go_wp2_with fail
      go_ret
      exact ⟨rfl, ext_of_grown (grown_trans ((Grown.refl _).alloc _ _) hg)⟩
    · have HR := Lib.hid (show fmtV ⟨1, n, []⟩ = Lib.itoa n by unfold fmtV; rw [if_pos hv']; rfl)
      clear hv'
      go_enter Tryd.func17, Tryd.ntmps17
      go_wp2_with fail
      refine (vlr_yes ⟨1, n, []⟩ _ HV.out).mono ?_; rintro e w1 ⟨rfl, hg⟩
      obtain ⟨hc, hf⟩ := gcell hg
      go_wp2_with fail
      refine (dec_ref n w1 h0 h1).mono ?_; rintro e w2 ⟨rfl, hx⟩
      go_wp2_with fail
      go_ret
      exact ⟨ret_sv HR.out.symm, (ext_of_grown (grown_trans ((Grown.refl _).alloc _ _) hg)).trans hx⟩
    · have HR := Lib.hid (show fmtV ⟨2, 0, s⟩ = 39 :: (dbl s ++ [39]) by unfold fmtV; rw [if_pos hv']; rfl)
      clear hv'
      go_enter Tryd.func17, Tryd.ntmps17
      go_wp2_with fail
      refine (vlr_yes ⟨2, 0, s⟩ _ HV.out).mono ?_; rintro e w1 ⟨rfl, hg⟩
      have hbox := kept hg (al3 w (.int .i64 2) (.int .i64 0) (sv s) 23)
      have hE : Ext w w1 := ext_of_grown (grown_trans ((Grown.refl _).alloc _ _) hg)
      obtain ⟨hc, hf⟩ := gcell hg
      go_wp2_with fail
      clear hc hf
      go_loopw [3, 4] (FmtR w1 s) (fun _ i _ => s.length - (intOf i).toNat)
      case atStart => exact ⟨0, Nat.zero_le _, rfl, ownB_lit (Ext.refl _) 39 39 rfl _ rfl⟩
      case round =>
        obtain ⟨k, hk, rfl, hO⟩ := hrel
        have hdl := (dbl_len (s.take k)).2
        have htl : (s.take k).length ≤ 200 := by simp; omega
        have cb := hO.2.keeps hbox
        by_cases hlt : k < s.length
        · have hst := dbl_take s k hlt
          have hix : (({ data := s.toArray } : ByteArray)[k]'(by simpa [ByteArray.size] using hlt)) = s[k] := rfl
          by_cases hq : s[k] = 39
          · have HS := Lib.hid (show 39 :: dbl (s.take k) ++ [39] ++ [s[k]] = 39 :: dbl (s.take (k + 1)) by rw [hst, if_pos hq, hq]; simp)
            have hn : (((({ data := s.toArray } : ByteArray)[k]'(by simpa [ByteArray.size] using hlt)).toNat : Int) == 39) = true := by rw [hix, hq]; rfl
            clear hst hix hq
            go_wp2_with (first
              | (at_builtin; refine appB rfl _ _ rfl w1 _ _ rfl (hO.ext ((Ext.refl _).alloc _ _)) _ [39] rfl (rdB_lit wr 39 39 rfl _ rfl) (by simp only [List.length_cons, List.length_nil]; omega) ?_; intro v1 x1 hO1 hg1; have cb1 := hO1.2.keeps hbox)
              | (at_builtin; refine appB rfl _ _ rfl w1 _ _ rfl (hO1.ext ((Ext.refl _).alloc _ _)) _ [s[k]] rfl (rdB_lit x1 s[k] _ rfl _ rfl) (by simp only [List.length_cons, List.length_append, List.length_nil]; omega) ?_; intro v2 x2 hO2 hg2))
            go_roundw
            case rel => exact ⟨k + 1, by omega, by go_num, HS.out ▸ hO2⟩
            case measure => simp [intOf]; omega
          · have HS := Lib.hid (show 39 :: dbl (s.take k) ++ [s[k]] = 39 :: dbl (s.take (k + 1)) by rw [hst, if_neg hq]; simp)
            have hn : (((({ data := s.toArray } : ByteArray)[k]'(by simpa [ByteArray.size] using hlt)).toNat : Int) == 39) = false := by
              rw [hix, beq_eq_false_iff_ne]; intro e; exact hq (UInt8.toNat_inj.1 (show s[k].toNat = 39 by omega))
            clear hst hix hq
            go_wp2_with (at_builtin; refine appB rfl _ _ rfl w1 _ _ rfl (hO.ext ((Ext.refl _).alloc _ _)) _ [s[k]] rfl (rdB_lit wr s[k] _ rfl _ rfl) (by simp only [List.length_cons, List.length_nil]; omega) ?_; intro v1 x1 hO1 hg1)
            go_roundw
            case rel => exact ⟨k + 1, by omega, by go_num, HS.out ▸ hO1⟩
            case measure => simp [intOf]; omega
        · have HE := Lib.hid (show 39 :: dbl (s.take k) ++ [39] = fmtV ⟨2, 0, s⟩ by rw [HR.out, List.take_of_length_le (by omega)]; simp)
          go_wp2_with (at_builtin; refine appB rfl _ _ rfl w1 _ _ rfl (hO.ext ((Ext.refl _).alloc _ _)) _ [39] rfl (rdB_lit wr 39 39 rfl _ rfl) (by simp only [List.length_cons, List.length_nil]; omega) ?_; intro v1 x1 hO1 hg1; have cv := hO1.rd.text)
          go_ret
          exact ⟨ret_sv HE.out, hE.trans hO1.2⟩
    all_goals
      clear hv'
      go_enter Tryd.func17, Tryd.ntmps17
      go_wp2_with fail
      refine (vlr_yes ⟨3, _, []⟩ _ HV.out).mono ?_; rintro e w1 ⟨rfl, hg⟩
      obtain ⟨hc, hf⟩ := gcell hg
      go_wp2_with fail
      go_ret
      exact ⟨rfl, ext_of_grown (grown_trans ((Grown.refl _).alloc _ _) hg)⟩
end Go.Proofs.YtejgmiljjpgbpaaDoor
