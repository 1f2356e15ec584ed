/- The contract of the reference's ParsePeriod: a text in brackets. -/
import Derived.Test.YtpdafoinhpjklaaDoorSpr1
namespace Go.Proofs.YtpdafoinhpjklaaDoor
open Go.ChangeShapes Go.WideShapes Go.ChangeAt Go.RowKit

/-- what the reference makes of the inner text f ++ t, where t begins with the first comma -/
def inRes (f t : List UInt8) (A B E : Int) : Prop :=
  (t = [] ∧ A = 0 ∧ B = 0 ∧ E = 5) ∨
  (t = [44] ∧ A = 0 ∧ B = 0 ∧ E = 5) ∨
  (∃ x g, t = 44 :: x :: g ∧ x ≠ 32 ∧ A = 0 ∧ B = 0 ∧ E = 5) ∨
  (∃ g u, t = 44 :: 32 :: (g ++ 41 :: u) ∧ (41 : UInt8) ∉ g ∧ A = 0 ∧ B = 0 ∧ E = 5) ∨
  (∃ g, t = 44 :: 32 :: g ∧ (41 : UInt8) ∉ g ∧ A = Cal.ppA f g ∧ B = Cal.ppB f g ∧ E = Cal.ppE f g)

set_option maxHeartbeats 4000000 in
theorem pper_ref_in (f t : List UInt8) (A B E : Int) (w : World) (hl : f.length + (t.length + 1) + 1 ≤ maxLen) (h : 2 ≤ f.length + t.length) (hf : (44 : UInt8) ∉ f) (hr : inRes f t A B E) :
    Calls Tryd.prog 17 #[sv (91 :: (f ++ (t ++ [41])))] w fun e w' => e = .returned (.tuple #[pv A B, .int .i64 E]) ∧ Ext w w' := by
  unfold maxLen at hl
  have H := Lib.hid hf
  have HR := Lib.hid hr
  have hW : Ext w (w.alloc (.cells #[.int .i64 0, .int .i64 0] 23)) := (Ext.refl _).alloc _ _
  have i0 : ∀ h, ({ data := (91 :: (f ++ (t ++ [41]))).toArray } : ByteArray)[0]'h = 91 := fun _ => rfl
  have iL : ∀ h, ({ data := (91 :: (f ++ (t ++ [41]))).toArray } : ByteArray)[f.length + (t.length + 1)]'h = 41 := fun h => by
    show (91 :: (f ++ (t ++ [41])))[f.length + t.length + 1]'(by simp) = 41
    rw [List.getElem_cons_succ, List.getElem_append_right (by simp), List.getElem_append_right (by simp)]; simp
  have d4 : decide ((f.length : Int) + ((t.length : Int) + 1) + 1 < 4) = false := by simp; omega
  have b1 : (1 : Int) ≤ (f.length : Int) + ((t.length : Int) + 1) := by omega
  have b2 : (f.length : Int) + ((t.length : Int) + 1) ≤ (f.length : Int) + ((t.length : Int) + 1) + 1 := by omega
  have ex : ({ data := (91 :: (f ++ (t ++ [41]))).toArray } : ByteArray).extract 1 (f.length + (t.length + 1)) = ⟨(f ++ t).toArray⟩ := by
    rw [ext_piece, show f ++ (t ++ [41]) = (f ++ t) ++ [41] by simp]
    simp only [List.drop_succ_cons, List.drop_zero]
    rw [List.take_left' (by simp)]
  clear hf hr
  go_enter Tryd.func17, Tryd.ntmps17
  go_wp2_with fail
  rw [ex]
  clear i0 iL d4 ex
  go_loop [5] (fun i => ∃ k : Nat, k ≤ f.length ∧ i = .int .i64 k) (fun i => f.length - (intOf i).toNat)
  case atStart => exact ⟨0, Nat.zero_le _, rfl⟩
  case round =>
    obtain ⟨k, hk, rfl⟩ := hrel
    by_cases hlt : k < f.length
    · have hs : (k : Int) < (f.length : Int) + (t.length : Int) := by omega
      have hn : (((({ data := (f ++ t).toArray } : ByteArray)[k]'(by simp [ByteArray.size]; omega)).toNat : Int) != 44) = true := by
        rw [bne_iff_ne]
        intro e
        apply H.out
        have e0 : (f ++ t)[k]'(by simp; omega) = f[k] := List.getElem_append_left hlt
        have : f[k] = 44 := UInt8.toNat_inj.1 (by have e' : (((f ++ t)[k]'(by simp; omega)).toNat : Int) = 44 := e; rw [e0] at e'; show f[k].toNat = 44; omega)
        rw [← this]; exact List.getElem_mem _
      go_wp2_with fail
      go_round
      case rel => exact ⟨k + 1, by omega, by go_num⟩
      case measure => simp [intOf]; omega
    · obtain rfl : k = f.length := by omega
      clear hlt hk
      rcases HR.out with ⟨rfl, rfl, rfl, rfl⟩ | ⟨rfl, rfl, rfl, rfl⟩ | ⟨x, g, rfl, hx, rfl, rfl, rfl⟩ | ⟨g, u, rfl, hg, rfl, rfl, rfl⟩ | ⟨g, rfl, hg, hA, hB, hE⟩
      · clear HR
        go_wp2_with fail
        exact bodyPost_ret (v := .tuple #[pv 0 0, .int .i64 5]) (by simp [results, Tryd.results17, go_sem]) rfl ⟨rfl, hW⟩
      · clear HR
        have iC : ∀ h, ({ data := (f ++ [44]).toArray } : ByteArray)[f.length]'h = 44 := fun h => by
          show (f ++ [44])[f.length]'(by simp) = 44
          simp
        go_wp2_with fail
        exact bodyPost_ret (v := .tuple #[pv 0 0, .int .i64 5]) (by simp [results, Tryd.results17, go_sem]) rfl ⟨rfl, hW⟩
      · clear HR
        have iC : ∀ h, ({ data := (f ++ 44 :: x :: g).toArray } : ByteArray)[f.length]'h = 44 := fun h => by
          show (f ++ 44 :: x :: g)[f.length]'(by simp) = 44
          simp
        have iD : ∀ h, ({ data := (f ++ 44 :: x :: g).toArray } : ByteArray)[f.length + 1]'h = x := fun h => by
          show (f ++ 44 :: x :: g)[f.length + 1]'(by simp) = x
          simp
        have hn : ((x.toNat : Int) != 32) = true := by
          rw [bne_iff_ne]; intro e; apply hx; apply UInt8.toNat_inj.1; show x.toNat = 32; omega
        have hm : ((x.toNat : Int) == 32) = false := by
          rw [beq_eq_false_iff_ne]; intro e; apply hx; apply UInt8.toNat_inj.1; show x.toNat = 32; omega
        clear hx
        go_wp2_with fail
        exact bodyPost_ret (v := .tuple #[pv 0 0, .int .i64 5]) (by simp [results, Tryd.results17, go_sem]) rfl ⟨rfl, hW⟩
      · clear HR
        have iC : ∀ h, ({ data := (f ++ 44 :: 32 :: (g ++ 41 :: u)).toArray } : ByteArray)[f.length]'h = 44 := fun h => by
          show (f ++ 44 :: 32 :: (g ++ 41 :: u))[f.length]'(by simp) = 44
          simp
        have iD : ∀ h, ({ data := (f ++ 44 :: 32 :: (g ++ 41 :: u)).toArray } : ByteArray)[f.length + 1]'h = 32 := fun h => by
          show (f ++ 44 :: 32 :: (g ++ 41 :: u))[f.length + 1]'(by simp) = 32
          simp
        have ey : ({ data := (f ++ 44 :: 32 :: (g ++ 41 :: u)).toArray } : ByteArray).extract (f.length + 2) (f.length + (g.length + (u.length + 1) + 1 + 1)) = ⟨(g ++ 41 :: u).toArray⟩ := by
          have := ex_drop (f ++ [44, 32]) (g ++ 41 :: u) (f.length + (g.length + (u.length + 1) + 1 + 1)) (by simp; omega)
          simpa using this
        have HG := Lib.hid hg
        have hl2 : g.length + (u.length + 1) ≤ maxLen := by simp at hl; unfold maxLen; omega
        clear hg
        go_wp2_with fail
        refine (has_ref_yes g u _ hl2 HG.out).mono ?_; rintro e w1 ⟨rfl, rfl⟩
        go_wp2_with fail
        exact bodyPost_ret (v := .tuple #[pv 0 0, .int .i64 5]) (by simp [results, Tryd.results17, go_sem]) rfl ⟨rfl, hW⟩
      · clear HR
        have iC : ∀ h, ({ data := (f ++ 44 :: 32 :: g).toArray } : ByteArray)[f.length]'h = 44 := fun h => by
          show (f ++ 44 :: 32 :: g)[f.length]'(by simp) = 44
          simp
        have iD : ∀ h, ({ data := (f ++ 44 :: 32 :: g).toArray } : ByteArray)[f.length + 1]'h = 32 := fun h => by
          show (f ++ 44 :: 32 :: g)[f.length + 1]'(by simp) = 32
          simp
        have ey : ({ data := (f ++ 44 :: 32 :: g).toArray } : ByteArray).extract (f.length + 2) (f.length + (g.length + 1 + 1)) = ⟨g.toArray⟩ := by
          have := ex_drop (f ++ [44, 32]) g (f.length + (g.length + 1 + 1)) (by simp; omega)
          simpa using this
        have ez : ({ data := (f ++ 44 :: 32 :: g).toArray } : ByteArray).extract 0 f.length = ⟨f.toArray⟩ := ex_take f (44 :: 32 :: g)
        have HG := Lib.hid hg
        have hl2 : g.length ≤ maxLen := by simp at hl; unfold maxLen; omega
        clear hg
        by_cases h1 : Cal.pdE f = 0
        · have q1 : (Cal.pdE f != 0) = false := by rw [h1]; rfl
          by_cases h2 : Cal.pdE g = 0
          · have q2 : (Cal.pdE g != 0) = false := by rw [h2]; rfl
            by_cases h3 : Cal.pdV g ≤ Cal.pdV f
            · have HP := Lib.hid (pp_e3 h1 h2 h3)
              have HA := Lib.hid hA; have HB := Lib.hid hB; have HE := Lib.hid hE
              clear h1 h2 hA hB hE
              go_wp2_with fail
              refine (has_ref_no g _ hl2 HG.out).mono ?_; rintro e w1 ⟨rfl, rfl⟩
              go_wp2_with fail
              refine (pday_ref f _).mono ?_; rintro e w2 ⟨rfl, hE2⟩
              go_wp2_with fail
              refine (pday_ref g _).mono ?_; rintro e w3 ⟨rfl, hE3⟩
              obtain ⟨k0, k1, kf, hz, hX⟩ := res_of (hE2.trans hE3)
              go_wp2_with fail
              exact bodyPost_ret (v := .tuple #[pv 0 0, .int .i64 10]) (by simp [results, Tryd.results17, go_sem, k0, k1]) rfl ⟨ret_pe (HA.out.trans HP.out.2.1).symm (HB.out.trans HP.out.2.2).symm (HE.out.trans HP.out.1).symm, (hX.setNew _ _ (Nat.le_refl _) _).setNew _ _ (Nat.le_refl _) _⟩
            · have HP := Lib.hid (pp_e4 h1 h2 h3)
              have HA := Lib.hid hA; have HB := Lib.hid hB; have HE := Lib.hid hE
              clear h1 h2 hA hB hE
              go_wp2_with fail
              refine (has_ref_no g _ hl2 HG.out).mono ?_; rintro e w1 ⟨rfl, rfl⟩
              go_wp2_with fail
              refine (pday_ref f _).mono ?_; rintro e w2 ⟨rfl, hE2⟩
              go_wp2_with fail
              refine (pday_ref g _).mono ?_; rintro e w3 ⟨rfl, hE3⟩
              obtain ⟨k0, k1, kf, hz, hX⟩ := res_of (hE2.trans hE3)
              go_wp2_with fail
              exact bodyPost_ret (v := .tuple #[pv (Cal.pdV f) (Cal.pdV g), .int .i64 0]) (by simp [results, Tryd.results17, go_sem, k0, k1]) rfl ⟨ret_pe (HA.out.trans HP.out.2.1).symm (HB.out.trans HP.out.2.2).symm (HE.out.trans HP.out.1).symm, (hX.setNew _ _ (Nat.le_refl _) _).setNew _ _ (Nat.le_refl _) _⟩
          · have q2 : (Cal.pdE g != 0) = true := bne_iff_ne.2 h2
            have HP := Lib.hid (pp_e2 h1 h2)
            have HA := Lib.hid hA; have HB := Lib.hid hB; have HE := Lib.hid hE
            clear h1 h2 hA hB hE
            go_wp2_with fail
            refine (has_ref_no g _ hl2 HG.out).mono ?_; rintro e w1 ⟨rfl, rfl⟩
            go_wp2_with fail
            refine (pday_ref f _).mono ?_; rintro e w2 ⟨rfl, hE2⟩
            go_wp2_with fail
            refine (pday_ref g _).mono ?_; rintro e w3 ⟨rfl, hE3⟩
            obtain ⟨k0, k1, kf, hz, hX⟩ := res_of (hE2.trans hE3)
            go_wp2_with fail
            exact bodyPost_ret (v := .tuple #[pv 0 0, .int .i64 (Cal.pdE g)]) (by simp [results, Tryd.results17, go_sem, k0, k1]) rfl ⟨ret_pe (HA.out.trans HP.out.2.1).symm (HB.out.trans HP.out.2.2).symm (HE.out.trans HP.out.1).symm, (hX.setNew _ _ (Nat.le_refl _) _).setNew _ _ (Nat.le_refl _) _⟩
        · have q1 : (Cal.pdE f != 0) = true := bne_iff_ne.2 h1
          have HP := Lib.hid (pp_e1 (g := g) h1)
          have HA := Lib.hid hA; have HB := Lib.hid hB; have HE := Lib.hid hE
          clear h1 hA hB hE
          go_wp2_with fail
          refine (has_ref_no g _ hl2 HG.out).mono ?_; rintro e w1 ⟨rfl, rfl⟩
          go_wp2_with fail
          refine (pday_ref f _).mono ?_; rintro e w2 ⟨rfl, hE2⟩
          obtain ⟨k0, k1, kf, hz, hX⟩ := res_of hE2
          go_wp2_with fail
          exact bodyPost_ret (v := .tuple #[pv 0 0, .int .i64 (Cal.pdE f)]) (by simp [results, Tryd.results17, go_sem, k0, k1]) rfl ⟨ret_pe (HA.out.trans HP.out.2.1).symm (HB.out.trans HP.out.2.2).symm (HE.out.trans HP.out.1).symm, (hX.setNew _ _ (Nat.le_refl _) _).setNew _ _ (Nat.le_refl _) _⟩
end Go.Proofs.YtpdafoinhpjklaaDoor
