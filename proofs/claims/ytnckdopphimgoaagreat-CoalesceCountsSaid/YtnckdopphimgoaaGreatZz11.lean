/- The reference's MergeLineage, walked. -/
import Derived.Test.YtnckdopphimgoaaGreatZz10
namespace Go.Proofs.YtnckdopphimgoaaGreat
open Go.ChangeShapes Go.WideShapes Go.ChangeAt Go.RowKit

def M3R (wB : World) (cs : List Int) (x : Int) (m : Nat) (kv : Value) (wz : World) : Prop := ∃ k : Nat, wz = wB ∧ kv = .int .i64 k ∧ k ≤ m ∧ Hid (∀ c ∈ cs.take k, c < x)
set_option maxHeartbeats 16000000 in
set_option maxRecDepth 100000 in
theorem ml_ref (a b : List Int) (va vb : Value) (w : World) (ra : RdG w va a) (rb : RdG w vb b) (ha : a.length ≤ 1000) (hb : b.length ≤ 1000) :
    Calls Tryz.prog 55 #[va, vb] w (MlP a b w) := by
  obtain ⟨aa, ca, rfl, a1, a2⟩ := ra.shape
  obtain ⟨ab, cb, rfl, b1, b2⟩ := rb.shape
  unfold maxLen at a2 b2
  have ix0 : ∀ w, (Instr.index 87 (.agg #[.slice aa a.length ca, .slice ab b.length cb]) (.int .i64 0)).run Tryz.prog w = .ok (.slice aa a.length ca) w := fun w => by rfl
  have ix1 : ∀ w, (Instr.index 87 (.agg #[.slice aa a.length ca, .slice ab b.length cb]) (.int .i64 1)).run Tryz.prog w = .ok (.slice ab b.length cb) w := fun w => by rfl
  have RA := Lib.hid ra
  have RB := Lib.hid rb
  clear ra rb
  go_enter Tryz.func55, Tryz.ntmps55
  go_wp2_with fail
  go_loopw [5, 14] (M1R w a b) (fun _ i _ => 2 - (intOf i).toNat)
  case atStart => exact ⟨0, [], by omega, rfl, OwnG.nil _ _ _ (Ext.refl _), by simp [Asc], by simp, by simp⟩
  case round =>
    obtain ⟨t0, base, ht0, rfl, hO, hasc, hmem, hlen⟩ := hrel
    rcases (show t0 = 0 ∨ t0 = 1 ∨ t0 = 2 by omega) with rfl | rfl | rfl
    · obtain ⟨wA, rfl⟩ : ∃ y, y = wr := ⟨_, rfl⟩
      have hbl : base.length ≤ 1000 := by first | (simp at hlen; omega) | (simp at hlen; subst hlen; simp)
      obtain ⟨l, hl⟩ : ∃ l, l = a := ⟨_, rfl⟩
      have HO0 := Lib.hid hO
      have HA0 := Lib.hid hasc
      have HM0 := Lib.hid hmem
      have HL0 := Lib.hid hlen
      clear hO hasc hmem hlen
      go_wp2_with fail
      go_loopw [5, 19] (M2R w base l) (fun _ i _ => l.length - (intOf i).toNat)
      case atStart => exact ⟨0, base, by omega, rfl, HO0.out, HA0.out, by simp, by omega⟩
      case round =>
        obtain ⟨t, cs, ht, rfl, hO, hasc, hmem, hlen⟩ := hrel
        by_cases hkl : t < l.length
        · have hi0 : (0 : Int) ≤ (t : Int) := by omega
          have hi1 : (t : Int) < (l.length : Int) := by omega
          have hla : l.length ≤ 1000 := by rw [hl]; exact ha
          have hi2 : (t : Int) < (a.length : Int) := by rw [← hl]; exact hi1
          obtain ⟨g, o, rfl, c0⟩ := rd_I RA.out t (by rw [← hl]; exact hkl)
          obtain ⟨x, hx⟩ : ∃ x, l[t] = x := ⟨_, rfl⟩
          have C0 : wr.cell? ⟨g, o + t, none⟩ = some (.int .i64 x) := by have := hO.2.keeps c0; rw [← hx]; subst hl; exact this
          have HX := Lib.hid hx
          have HLX := Lib.hid hl
          clear c0 hx HO0 HA0 HM0 HL0
          have hlen2 : cs.length ≤ 2000 := by omega
          rcases own_cases hO with ⟨rfl, rfl⟩ | ⟨gO, cO, rfl, hc1, hc2⟩
          · have HAS := Lib.hid (show Asc (([] : List Int) ++ [x] ++ []) by simp [Asc])
            have HME := Lib.hid (show ∀ c, c ∈ ([] : List Int) ++ [x] ++ [] ↔ c ∈ base ∨ c ∈ l.take (t + 1) by intro c; rw [mem_take_succ l t hkl, HX.out, ← or_assoc, ← hmem c]; simp)
            have HCL := Lib.hid hlen
            have HO := Lib.hid hO
            clear hO hmem hasc hlen
            obtain ⟨wB, rfl⟩ : ∃ y, y = wr := ⟨_, rfl⟩
            go_wp2_with fail
            go_loopw [10] (fun kv wz => wz = wB ∧ kv = .int .i64 0) (fun _ _ => 0)
            case atStart => exact ⟨rfl, rfl⟩
            case round =>
              obtain ⟨rfl, rfl⟩ := hrel
              obtain ⟨wB, rfl⟩ : ∃ y, y = wr := ⟨_, rfl⟩
              have exA : Ext wB (wB.alloc (.cells #[.int .i64 x] 3)).drew := ((Ext.refl wB).alloc _ _).drew
              have exB : Ext wB wB.drew := (Ext.refl wB).drew
              have rlA : RdG (wB.alloc (.cells #[.int .i64 x] 3)).drew (.slice (some ⟨wB.heap.size, 0, none⟩) 1 1) [x] := rd_lit1I wB x 3 _ rfl
              have EXA := Lib.hid exA
              have EXB := Lib.hid exB
              have RLA := Lib.hid rlA
              clear exA exB rlA
              go_wp2_with fail
              go_region_held3 (fun _ => True) (trivial) (first | (refine step_appG tI rfl _ _ rfl wB _ (([] : List Int) ++ [x]) rfl hO2 _ ([] : List Int) rfl (rdG_nil _) (by have := HCL.out; first | (simp; omega) | simp) ?_; intro v3 w3 hO3 hg3) | (refine step_appG tI rfl _ _ rfl wB _ ([] : List Int) rfl hO1 _ [x] rfl q1 (by have := HCL.out; first | (simp; omega) | simp) ?_; intro v2 w2 hO2 hg2) | (refine step_appG tI rfl _ _ rfl wB _ ([] : List Int) rfl (hO1.ext ((Ext.refl w1).alloc _ _)) _ [x] rfl (rd_lit1I w1 x 3 _ rfl) (by have := HCL.out; first | (simp; omega) | simp) ?_; intro v2 w2 hO2 hg2) | (refine step_appG tI rfl _ _ rfl wB _ [] rfl (OwnG.nil _ _ _ EXA.out) _ ([] : List Int) rfl (rdG_nil _) (by have := HCL.out; first | (simp; omega) | simp) ?_; intro v1 w1 hO1 hg1; rw [List.nil_append] at hO1; have q1 : RdG w1 (.slice (some ⟨wB.heap.size, 0, none⟩) 1 1) [x] := RLA.out.ext (ext_grownBy (Ext.refl _) hg1 (fun kk hh => by cases hh))) | (refine step_appG tI rfl _ _ rfl wB _ [] rfl (OwnG.nil _ _ _ EXB.out) _ ([] : List Int) rfl (rdG_nil _) (by have := HCL.out; first | (simp; omega) | simp) ?_; intro v1 w1 hO1 hg1; rw [List.nil_append] at hO1))
              · go_wp2_with fail
                refine ⟨?_, ?measure⟩
                · (repeat apply Exists.intro)
                  refine ⟨?rel, rfl⟩
                  case rel => exact ⟨t + 1, [] ++ [x] ++ [], by omega, by go_num, hO3.base HO.out.2, HAS.out, HME.out, by have := HCL.out; first | (simp; omega) | simp⟩
                case measure => simp [intOf]; omega
              · go_wp2_with fail
                refine ⟨?_, ?measure⟩
                · (repeat apply Exists.intro)
                  refine ⟨?rel, rfl⟩
                  case rel => exact ⟨t + 1, [] ++ [x] ++ [], by omega, by go_num, hO3.base HO.out.2, HAS.out, HME.out, by have := HCL.out; first | (simp; omega) | simp⟩
                case measure => simp [intOf]; omega
          · have HO := Lib.hid hO
            have HAsc := Lib.hid hasc
            have HMem := Lib.hid hmem
            have HCL := Lib.hid hlen
            have hc3 : cO ≤ 9223372036854775807 := hc2
            obtain ⟨m, hm⟩ : ∃ m, m = cs.length := ⟨_, rfl⟩
            have HM := Lib.hid hm
            rw [← hm] at HO hc1 hlen2 ⊢
            clear hO hmem hasc hlen hm hc2
            obtain ⟨wB, rfl⟩ : ∃ y, y = wr := ⟨_, rfl⟩
            go_wp2_with fail
            go_loopw [10] (M3R wB cs x m) (fun kv _ => m - (intOf kv).toNat)
            case atStart => exact ⟨0, rfl, rfl, by omega, Lib.hid (by simp)⟩
            case round =>
              obtain ⟨k, rfl, rfl, hkm, HLO⟩ := hrel
              obtain ⟨wB, rfl⟩ : ∃ y, y = wr := ⟨_, rfl⟩
              have hk0 : (0 : Int) ≤ (k : Int) := by omega
              have HKM := Lib.hid hkm
              have HSL : Hid (k ≤ cs.length) := Lib.hid (by rw [← HM.out]; exact hkm)
              by_cases hlt : k < m
              · have hk1 : (k : Int) < (m : Int) := by omega
                have hd1 : decide ((k : Int) < (m : Int)) = true := by simp; omega
                have hne : (((k : Int) == (m : Int)) : Bool) = false := by simp; omega
                have hkc : k < cs.length := by rw [← HM.out]; exact hlt
                obtain ⟨g', o', e', c1⟩ := rd_I HO.out.rd k hkc
                simp only [Option.some.injEq, Addr.mk.injEq, and_true] at e'
                obtain ⟨rfl, rfl⟩ := e'
                rw [Nat.zero_add] at c1
                have HKC := Lib.hid (List.getElem?_eq_getElem hkc)
                obtain ⟨y, hy⟩ : ∃ y, cs[k] = y := ⟨_, rfl⟩
                have HY := Lib.hid hy
                rw [hy] at c1
                clear hy
                by_cases hyx : y < x
                · have HLO2 : Hid (∀ c ∈ cs.take (k + 1), c < x) := Lib.hid (lo_stepI HLO.out hkc (by rw [HY.out]; exact hyx))
                  go_wp2_with fail
                  go_roundw
                  case rel => exact ⟨k + 1, rfl, by go_num, by omega, HLO2⟩
                  case measure => simp [intOf]; omega
                · by_cases hxy : y = x
                  · subst hxy
                    have HRES : Hid (∀ c, c ∈ cs ↔ c ∈ base ∨ c ∈ l.take (t + 1)) := Lib.hid (by
                      intro c; rw [mem_take_succ l t hkl, HX.out, ← or_assoc, ← HMem.out c]
                      exact ⟨.inl, fun h => h.elim id (fun e => by rw [e, ← HY.out]; exact List.getElem_mem _)⟩)
                    go_wp2_with fail
                    go_roundw
                    case rel => exact ⟨t + 1, cs, by omega, by go_num, HO.out, HAsc.out, HRES.out, by have := HCL.out; omega⟩
                    case measure => simp [intOf]; omega
                  · have hxy2 : x < y := by omega
                    have hyb : ((y == x) : Bool) = false := by simpa using hxy
                    have hk2 : (k : Int) ≤ (cO : Int) := by omega
                    have hk3 : (k : Int) ≤ (m : Int) := by omega
                    have hck : ¬ cO = k := by omega
                    have HAS : Hid (Asc (cs.take k ++ [x] ++ cs.drop k)) := Lib.hid (ins_asc cs x k HAsc.out HLO.out (hi_of HAsc.out hkc (by rw [HY.out]; exact hxy2)))
                    have HME : Hid (∀ c, c ∈ cs.take k ++ [x] ++ cs.drop k ↔ c ∈ base ∨ c ∈ l.take (t + 1)) := Lib.hid (by intro c; rw [mem_take_succ l t hkl, HX.out, ← or_assoc, ← HMem.out c]; exact ins_mem cs x k c)
                    have exA : Ext wB (wB.alloc (.cells #[.int .i64 x] 3)).drew := ((Ext.refl wB).alloc _ _).drew
                    have exB : Ext wB wB.drew := (Ext.refl wB).drew
                    have rlA : RdG (wB.alloc (.cells #[.int .i64 x] 3)).drew (.slice (some ⟨wB.heap.size, 0, none⟩) 1 1) [x] := rd_lit1I wB x 3 _ rfl
                    have EXA := Lib.hid exA
                    have EXB := Lib.hid exB
                    have RLA := Lib.hid rlA
                    clear exA exB rlA
                    have RT := Lib.hid (HO.out.rd.take k HSL.out)
                    have RD := Lib.hid (HO.out.rd.dropI HKM.out)
                    rw [if_neg hck] at RD
                    go_wp2_with fail
                    go_region_held3 (fun _ => True) (trivial) (first | (refine step_appG tI rfl _ _ rfl wB _ ((cs.take k) ++ [x]) rfl hO2 _ (cs.drop k) rfl (RD.out.ext hO2.2) (by have := HCL.out; first | (simp; omega) | simp) ?_; intro v3 w3 hO3 hg3) | (refine step_appG tI rfl _ _ rfl wB _ (cs.take k) rfl hO1 _ [x] rfl q1 (by have := HCL.out; first | (simp; omega) | simp) ?_; intro v2 w2 hO2 hg2) | (refine step_appG tI rfl _ _ rfl wB _ (cs.take k) rfl (hO1.ext ((Ext.refl w1).alloc _ _)) _ [x] rfl (rd_lit1I w1 x 3 _ rfl) (by have := HCL.out; first | (simp; omega) | simp) ?_; intro v2 w2 hO2 hg2) | (refine step_appG tI rfl _ _ rfl wB _ [] rfl (OwnG.nil _ _ _ EXA.out) _ (cs.take k) rfl (RT.out.ext EXA.out) (by have := HCL.out; first | (simp; omega) | simp) ?_; intro v1 w1 hO1 hg1; rw [List.nil_append] at hO1; have q1 : RdG w1 (.slice (some ⟨wB.heap.size, 0, none⟩) 1 1) [x] := RLA.out.ext (ext_grownBy (Ext.refl _) hg1 (fun kk hh => by cases hh))) | (refine step_appG tI rfl _ _ rfl wB _ [] rfl (OwnG.nil _ _ _ EXB.out) _ (cs.take k) rfl (RT.out.ext EXB.out) (by have := HCL.out; first | (simp; omega) | simp) ?_; intro v1 w1 hO1 hg1; rw [List.nil_append] at hO1))
                    · go_wp2_with fail
                      refine ⟨?_, ?measure⟩
                      · (repeat apply Exists.intro)
                        refine ⟨?rel, rfl⟩
                        case rel => exact ⟨t + 1, cs.take k ++ [x] ++ cs.drop k, by omega, by go_num, hO3.base HO.out.2, HAS.out, HME.out, by have := HCL.out; first | (simp; omega) | simp⟩
                      case measure => simp [intOf]; omega
                    · go_wp2_with fail
                      refine ⟨?_, ?measure⟩
                      · (repeat apply Exists.intro)
                        refine ⟨?rel, rfl⟩
                        case rel => exact ⟨t + 1, cs.take k ++ [x] ++ cs.drop k, by omega, by go_num, hO3.base HO.out.2, HAS.out, HME.out, by have := HCL.out; first | (simp; omega) | simp⟩
                      case measure => simp [intOf]; omega
              · obtain rfl : k = m := by omega
                clear hlt
                have hd1 : decide ((k : Int) < (k : Int)) = false := by simp
                have HAS : Hid (Asc (cs.take k ++ [x] ++ cs.drop k)) := Lib.hid (ins_asc cs x k HAsc.out HLO.out (by rw [HM.out, List.drop_length]; simp))
                have HME : Hid (∀ c, c ∈ cs.take k ++ [x] ++ cs.drop k ↔ c ∈ base ∨ c ∈ l.take (t + 1)) := Lib.hid (by intro c; rw [mem_take_succ l t hkl, HX.out, ← or_assoc, ← HMem.out c]; exact ins_mem cs x k c)
                have hk2 : (k : Int) ≤ (cO : Int) := by omega
                by_cases hck : cO = k
                · have HCK := Lib.hid hck
                  subst hck
                  have exA : Ext wB (wB.alloc (.cells #[.int .i64 x] 3)).drew := ((Ext.refl wB).alloc _ _).drew
                  have exB : Ext wB wB.drew := (Ext.refl wB).drew
                  have rlA : RdG (wB.alloc (.cells #[.int .i64 x] 3)).drew (.slice (some ⟨wB.heap.size, 0, none⟩) 1 1) [x] := rd_lit1I wB x 3 _ rfl
                  have EXA := Lib.hid exA
                  have EXB := Lib.hid exB
                  have RLA := Lib.hid rlA
                  clear exA exB rlA
                  have RT := Lib.hid (HO.out.rd.take cO HSL.out)
                  have RD := Lib.hid (HO.out.rd.dropI HKM.out)
                  rw [if_pos rfl, Nat.sub_self] at RD
                  go_wp2_with fail
                  go_region_held3 (fun _ => True) (trivial) (first | (refine step_appG tI rfl _ _ rfl wB _ ((cs.take cO) ++ [x]) rfl hO2 _ (cs.drop cO) rfl (RD.out.ext hO2.2) (by have := HCL.out; first | (simp; omega) | simp) ?_; intro v3 w3 hO3 hg3) | (refine step_appG tI rfl _ _ rfl wB _ (cs.take cO) rfl hO1 _ [x] rfl q1 (by have := HCL.out; first | (simp; omega) | simp) ?_; intro v2 w2 hO2 hg2) | (refine step_appG tI rfl _ _ rfl wB _ (cs.take cO) rfl (hO1.ext ((Ext.refl w1).alloc _ _)) _ [x] rfl (rd_lit1I w1 x 3 _ rfl) (by have := HCL.out; first | (simp; omega) | simp) ?_; intro v2 w2 hO2 hg2) | (refine step_appG tI rfl _ _ rfl wB _ [] rfl (OwnG.nil _ _ _ EXA.out) _ (cs.take cO) rfl (RT.out.ext EXA.out) (by have := HCL.out; first | (simp; omega) | simp) ?_; intro v1 w1 hO1 hg1; rw [List.nil_append] at hO1; have q1 : RdG w1 (.slice (some ⟨wB.heap.size, 0, none⟩) 1 1) [x] := RLA.out.ext (ext_grownBy (Ext.refl _) hg1 (fun kk hh => by cases hh))) | (refine step_appG tI rfl _ _ rfl wB _ [] rfl (OwnG.nil _ _ _ EXB.out) _ (cs.take cO) rfl (RT.out.ext EXB.out) (by have := HCL.out; first | (simp; omega) | simp) ?_; intro v1 w1 hO1 hg1; rw [List.nil_append] at hO1))
                  · go_wp2_with fail
                    refine ⟨?_, ?measure⟩
                    · (repeat apply Exists.intro)
                      refine ⟨?rel, rfl⟩
                      case rel => exact ⟨t + 1, cs.take cO ++ [x] ++ cs.drop cO, by omega, by go_num, hO3.base HO.out.2, HAS.out, HME.out, by have := HCL.out; first | (simp; omega) | simp⟩
                    case measure => simp [intOf]; omega
                  · go_wp2_with fail
                    refine ⟨?_, ?measure⟩
                    · (repeat apply Exists.intro)
                      refine ⟨?rel, rfl⟩
                      case rel => exact ⟨t + 1, cs.take cO ++ [x] ++ cs.drop cO, by omega, by go_num, hO3.base HO.out.2, HAS.out, HME.out, by have := HCL.out; first | (simp; omega) | simp⟩
                    case measure => simp [intOf]; omega
                · skip
                  have exA : Ext wB (wB.alloc (.cells #[.int .i64 x] 3)).drew := ((Ext.refl wB).alloc _ _).drew
                  have exB : Ext wB wB.drew := (Ext.refl wB).drew
                  have rlA : RdG (wB.alloc (.cells #[.int .i64 x] 3)).drew (.slice (some ⟨wB.heap.size, 0, none⟩) 1 1) [x] := rd_lit1I wB x 3 _ rfl
                  have EXA := Lib.hid exA
                  have EXB := Lib.hid exB
                  have RLA := Lib.hid rlA
                  clear exA exB rlA
                  have RT := Lib.hid (HO.out.rd.take k HSL.out)
                  have RD := Lib.hid (HO.out.rd.dropI HKM.out)
                  rw [if_neg hck, Nat.sub_self] at RD
                  go_wp2_with fail
                  go_region_held3 (fun _ => True) (trivial) (first | (refine step_appG tI rfl _ _ rfl wB _ ((cs.take k) ++ [x]) rfl hO2 _ (cs.drop k) rfl (RD.out.ext hO2.2) (by have := HCL.out; first | (simp; omega) | simp) ?_; intro v3 w3 hO3 hg3) | (refine step_appG tI rfl _ _ rfl wB _ (cs.take k) rfl hO1 _ [x] rfl q1 (by have := HCL.out; first | (simp; omega) | simp) ?_; intro v2 w2 hO2 hg2) | (refine step_appG tI rfl _ _ rfl wB _ (cs.take k) rfl (hO1.ext ((Ext.refl w1).alloc _ _)) _ [x] rfl (rd_lit1I w1 x 3 _ rfl) (by have := HCL.out; first | (simp; omega) | simp) ?_; intro v2 w2 hO2 hg2) | (refine step_appG tI rfl _ _ rfl wB _ [] rfl (OwnG.nil _ _ _ EXA.out) _ (cs.take k) rfl (RT.out.ext EXA.out) (by have := HCL.out; first | (simp; omega) | simp) ?_; intro v1 w1 hO1 hg1; rw [List.nil_append] at hO1; have q1 : RdG w1 (.slice (some ⟨wB.heap.size, 0, none⟩) 1 1) [x] := RLA.out.ext (ext_grownBy (Ext.refl _) hg1 (fun kk hh => by cases hh))) | (refine step_appG tI rfl _ _ rfl wB _ [] rfl (OwnG.nil _ _ _ EXB.out) _ (cs.take k) rfl (RT.out.ext EXB.out) (by have := HCL.out; first | (simp; omega) | simp) ?_; intro v1 w1 hO1 hg1; rw [List.nil_append] at hO1))
                  · go_wp2_with fail
                    refine ⟨?_, ?measure⟩
                    · (repeat apply Exists.intro)
                      refine ⟨?rel, rfl⟩
                      case rel => exact ⟨t + 1, cs.take k ++ [x] ++ cs.drop k, by omega, by go_num, hO3.base HO.out.2, HAS.out, HME.out, by have := HCL.out; first | (simp; omega) | simp⟩
                    case measure => simp [intOf]; omega
                  · go_wp2_with fail
                    refine ⟨?_, ?measure⟩
                    · (repeat apply Exists.intro)
                      refine ⟨?rel, rfl⟩
                      case rel => exact ⟨t + 1, cs.take k ++ [x] ++ cs.drop k, by omega, by go_num, hO3.base HO.out.2, HAS.out, HME.out, by have := HCL.out; first | (simp; omega) | simp⟩
                    case measure => simp [intOf]; omega
        · have hte : t = l.length := by omega
          subst hte
          have hend : decide ((l.length : Int) < (a.length : Int)) = false := by rw [← hl]; simp
          have HRES : Hid (∀ c, c ∈ cs ↔ (1 ≤ 0 + 1 ∧ c ∈ a) ∨ (2 ≤ 0 + 1 ∧ c ∈ b)) := Lib.hid (by
            intro c; rw [hmem c, HM0.out c, List.take_length, hl]; simp)
          have HLE : Hid (cs.length ≤ (if 1 ≤ 0 + 1 then a.length else 0) + (if 2 ≤ 0 + 1 then b.length else 0)) := Lib.hid (by
            have h0 := HL0.out; rw [hl] at hlen; simp at h0 ⊢; first | omega | (rw [h0] at hlen; simp at hlen; omega))
          have HO := Lib.hid hO
          have HAsc := Lib.hid hasc
          clear hO hasc hmem hlen HO0 HA0 HM0 HL0
          go_wp2_with fail
          go_roundw
          case rel => exact ⟨0 + 1, cs, by omega, by go_num, HO.out, HAsc.out, HRES.out, HLE.out⟩
          case measure => simp [intOf]
    · obtain ⟨wA, rfl⟩ : ∃ y, y = wr := ⟨_, rfl⟩
      have hbl : base.length ≤ 1000 := by first | (simp at hlen; omega) | (simp at hlen; subst hlen; simp)
      obtain ⟨l, hl⟩ : ∃ l, l = b := ⟨_, rfl⟩
      have HO0 := Lib.hid hO
      have HA0 := Lib.hid hasc
      have HM0 := Lib.hid hmem
      have HL0 := Lib.hid hlen
      clear hO hasc hmem hlen
      go_wp2_with fail
      go_loopw [5, 19] (M2R w base l) (fun _ i _ => l.length - (intOf i).toNat)
      case atStart => exact ⟨0, base, by omega, rfl, HO0.out, HA0.out, by simp, by omega⟩
      case round =>
        obtain ⟨t, cs, ht, rfl, hO, hasc, hmem, hlen⟩ := hrel
        by_cases hkl : t < l.length
        · have hi0 : (0 : Int) ≤ (t : Int) := by omega
          have hi1 : (t : Int) < (l.length : Int) := by omega
          have hla : l.length ≤ 1000 := by rw [hl]; exact hb
          have hi2 : (t : Int) < (b.length : Int) := by rw [← hl]; exact hi1
          obtain ⟨g, o, rfl, c0⟩ := rd_I RB.out t (by rw [← hl]; exact hkl)
          obtain ⟨x, hx⟩ : ∃ x, l[t] = x := ⟨_, rfl⟩
          have C0 : wr.cell? ⟨g, o + t, none⟩ = some (.int .i64 x) := by have := hO.2.keeps c0; rw [← hx]; subst hl; exact this
          have HX := Lib.hid hx
          have HLX := Lib.hid hl
          clear c0 hx HO0 HA0 HM0 HL0
          have hlen2 : cs.length ≤ 2000 := by omega
          rcases own_cases hO with ⟨rfl, rfl⟩ | ⟨gO, cO, rfl, hc1, hc2⟩
          · have HAS := Lib.hid (show Asc (([] : List Int) ++ [x] ++ []) by simp [Asc])
            have HME := Lib.hid (show ∀ c, c ∈ ([] : List Int) ++ [x] ++ [] ↔ c ∈ base ∨ c ∈ l.take (t + 1) by intro c; rw [mem_take_succ l t hkl, HX.out, ← or_assoc, ← hmem c]; simp)
            have HCL := Lib.hid hlen
            have HO := Lib.hid hO
            clear hO hmem hasc hlen
            obtain ⟨wB, rfl⟩ : ∃ y, y = wr := ⟨_, rfl⟩
            go_wp2_with fail
            go_loopw [10] (fun kv wz => wz = wB ∧ kv = .int .i64 0) (fun _ _ => 0)
            case atStart => exact ⟨rfl, rfl⟩
            case round =>
              obtain ⟨rfl, rfl⟩ := hrel
              obtain ⟨wB, rfl⟩ : ∃ y, y = wr := ⟨_, rfl⟩
              have exA : Ext wB (wB.alloc (.cells #[.int .i64 x] 3)).drew := ((Ext.refl wB).alloc _ _).drew
              have exB : Ext wB wB.drew := (Ext.refl wB).drew
              have rlA : RdG (wB.alloc (.cells #[.int .i64 x] 3)).drew (.slice (some ⟨wB.heap.size, 0, none⟩) 1 1) [x] := rd_lit1I wB x 3 _ rfl
              have EXA := Lib.hid exA
              have EXB := Lib.hid exB
              have RLA := Lib.hid rlA
              clear exA exB rlA
              go_wp2_with fail
              go_region_held3 (fun _ => True) (trivial) (first | (refine step_appG tI rfl _ _ rfl wB _ (([] : List Int) ++ [x]) rfl hO2 _ ([] : List Int) rfl (rdG_nil _) (by have := HCL.out; first | (simp; omega) | simp) ?_; intro v3 w3 hO3 hg3) | (refine step_appG tI rfl _ _ rfl wB _ ([] : List Int) rfl hO1 _ [x] rfl q1 (by have := HCL.out; first | (simp; omega) | simp) ?_; intro v2 w2 hO2 hg2) | (refine step_appG tI rfl _ _ rfl wB _ ([] : List Int) rfl (hO1.ext ((Ext.refl w1).alloc _ _)) _ [x] rfl (rd_lit1I w1 x 3 _ rfl) (by have := HCL.out; first | (simp; omega) | simp) ?_; intro v2 w2 hO2 hg2) | (refine step_appG tI rfl _ _ rfl wB _ [] rfl (OwnG.nil _ _ _ EXA.out) _ ([] : List Int) rfl (rdG_nil _) (by have := HCL.out; first | (simp; omega) | simp) ?_; intro v1 w1 hO1 hg1; rw [List.nil_append] at hO1; have q1 : RdG w1 (.slice (some ⟨wB.heap.size, 0, none⟩) 1 1) [x] := RLA.out.ext (ext_grownBy (Ext.refl _) hg1 (fun kk hh => by cases hh))) | (refine step_appG tI rfl _ _ rfl wB _ [] rfl (OwnG.nil _ _ _ EXB.out) _ ([] : List Int) rfl (rdG_nil _) (by have := HCL.out; first | (simp; omega) | simp) ?_; intro v1 w1 hO1 hg1; rw [List.nil_append] at hO1))
              · go_wp2_with fail
                refine ⟨?_, ?measure⟩
                · (repeat apply Exists.intro)
                  refine ⟨?rel, rfl⟩
                  case rel => exact ⟨t + 1, [] ++ [x] ++ [], by omega, by go_num, hO3.base HO.out.2, HAS.out, HME.out, by have := HCL.out; first | (simp; omega) | simp⟩
                case measure => simp [intOf]; omega
              · go_wp2_with fail
                refine ⟨?_, ?measure⟩
                · (repeat apply Exists.intro)
                  refine ⟨?rel, rfl⟩
                  case rel => exact ⟨t + 1, [] ++ [x] ++ [], by omega, by go_num, hO3.base HO.out.2, HAS.out, HME.out, by have := HCL.out; first | (simp; omega) | simp⟩
                case measure => simp [intOf]; omega
          · have HO := Lib.hid hO
            have HAsc := Lib.hid hasc
            have HMem := Lib.hid hmem
            have HCL := Lib.hid hlen
            have hc3 : cO ≤ 9223372036854775807 := hc2
            obtain ⟨m, hm⟩ : ∃ m, m = cs.length := ⟨_, rfl⟩
            have HM := Lib.hid hm
            rw [← hm] at HO hc1 hlen2 ⊢
            clear hO hmem hasc hlen hm hc2
            obtain ⟨wB, rfl⟩ : ∃ y, y = wr := ⟨_, rfl⟩
            go_wp2_with fail
            go_loopw [10] (M3R wB cs x m) (fun kv _ => m - (intOf kv).toNat)
            case atStart => exact ⟨0, rfl, rfl, by omega, Lib.hid (by simp)⟩
            case round =>
              obtain ⟨k, rfl, rfl, hkm, HLO⟩ := hrel
              obtain ⟨wB, rfl⟩ : ∃ y, y = wr := ⟨_, rfl⟩
              have hk0 : (0 : Int) ≤ (k : Int) := by omega
              have HKM := Lib.hid hkm
              have HSL : Hid (k ≤ cs.length) := Lib.hid (by rw [← HM.out]; exact hkm)
              by_cases hlt : k < m
              · have hk1 : (k : Int) < (m : Int) := by omega
                have hd1 : decide ((k : Int) < (m : Int)) = true := by simp; omega
                have hne : (((k : Int) == (m : Int)) : Bool) = false := by simp; omega
                have hkc : k < cs.length := by rw [← HM.out]; exact hlt
                obtain ⟨g', o', e', c1⟩ := rd_I HO.out.rd k hkc
                simp only [Option.some.injEq, Addr.mk.injEq, and_true] at e'
                obtain ⟨rfl, rfl⟩ := e'
                rw [Nat.zero_add] at c1
                have HKC := Lib.hid (List.getElem?_eq_getElem hkc)
                obtain ⟨y, hy⟩ : ∃ y, cs[k] = y := ⟨_, rfl⟩
                have HY := Lib.hid hy
                rw [hy] at c1
                clear hy
                by_cases hyx : y < x
                · have HLO2 : Hid (∀ c ∈ cs.take (k + 1), c < x) := Lib.hid (lo_stepI HLO.out hkc (by rw [HY.out]; exact hyx))
                  go_wp2_with fail
                  go_roundw
                  case rel => exact ⟨k + 1, rfl, by go_num, by omega, HLO2⟩
                  case measure => simp [intOf]; omega
                · by_cases hxy : y = x
                  · subst hxy
                    have HRES : Hid (∀ c, c ∈ cs ↔ c ∈ base ∨ c ∈ l.take (t + 1)) := Lib.hid (by
                      intro c; rw [mem_take_succ l t hkl, HX.out, ← or_assoc, ← HMem.out c]
                      exact ⟨.inl, fun h => h.elim id (fun e => by rw [e, ← HY.out]; exact List.getElem_mem _)⟩)
                    go_wp2_with fail
                    go_roundw
                    case rel => exact ⟨t + 1, cs, by omega, by go_num, HO.out, HAsc.out, HRES.out, by have := HCL.out; omega⟩
                    case measure => simp [intOf]; omega
                  · have hxy2 : x < y := by omega
                    have hyb : ((y == x) : Bool) = false := by simpa using hxy
                    have hk2 : (k : Int) ≤ (cO : Int) := by omega
                    have hk3 : (k : Int) ≤ (m : Int) := by omega
                    have hck : ¬ cO = k := by omega
                    have HAS : Hid (Asc (cs.take k ++ [x] ++ cs.drop k)) := Lib.hid (ins_asc cs x k HAsc.out HLO.out (hi_of HAsc.out hkc (by rw [HY.out]; exact hxy2)))
                    have HME : Hid (∀ c, c ∈ cs.take k ++ [x] ++ cs.drop k ↔ c ∈ base ∨ c ∈ l.take (t + 1)) := Lib.hid (by intro c; rw [mem_take_succ l t hkl, HX.out, ← or_assoc, ← HMem.out c]; exact ins_mem cs x k c)
                    have exA : Ext wB (wB.alloc (.cells #[.int .i64 x] 3)).drew := ((Ext.refl wB).alloc _ _).drew
                    have exB : Ext wB wB.drew := (Ext.refl wB).drew
                    have rlA : RdG (wB.alloc (.cells #[.int .i64 x] 3)).drew (.slice (some ⟨wB.heap.size, 0, none⟩) 1 1) [x] := rd_lit1I wB x 3 _ rfl
                    have EXA := Lib.hid exA
                    have EXB := Lib.hid exB
                    have RLA := Lib.hid rlA
                    clear exA exB rlA
                    have RT := Lib.hid (HO.out.rd.take k HSL.out)
                    have RD := Lib.hid (HO.out.rd.dropI HKM.out)
                    rw [if_neg hck] at RD
                    go_wp2_with fail
                    go_region_held3 (fun _ => True) (trivial) (first | (refine step_appG tI rfl _ _ rfl wB _ ((cs.take k) ++ [x]) rfl hO2 _ (cs.drop k) rfl (RD.out.ext hO2.2) (by have := HCL.out; first | (simp; omega) | simp) ?_; intro v3 w3 hO3 hg3) | (refine step_appG tI rfl _ _ rfl wB _ (cs.take k) rfl hO1 _ [x] rfl q1 (by have := HCL.out; first | (simp; omega) | simp) ?_; intro v2 w2 hO2 hg2) | (refine step_appG tI rfl _ _ rfl wB _ (cs.take k) rfl (hO1.ext ((Ext.refl w1).alloc _ _)) _ [x] rfl (rd_lit1I w1 x 3 _ rfl) (by have := HCL.out; first | (simp; omega) | simp) ?_; intro v2 w2 hO2 hg2) | (refine step_appG tI rfl _ _ rfl wB _ [] rfl (OwnG.nil _ _ _ EXA.out) _ (cs.take k) rfl (RT.out.ext EXA.out) (by have := HCL.out; first | (simp; omega) | simp) ?_; intro v1 w1 hO1 hg1; rw [List.nil_append] at hO1; have q1 : RdG w1 (.slice (some ⟨wB.heap.size, 0, none⟩) 1 1) [x] := RLA.out.ext (ext_grownBy (Ext.refl _) hg1 (fun kk hh => by cases hh))) | (refine step_appG tI rfl _ _ rfl wB _ [] rfl (OwnG.nil _ _ _ EXB.out) _ (cs.take k) rfl (RT.out.ext EXB.out) (by have := HCL.out; first | (simp; omega) | simp) ?_; intro v1 w1 hO1 hg1; rw [List.nil_append] at hO1))
                    · go_wp2_with fail
                      refine ⟨?_, ?measure⟩
                      · (repeat apply Exists.intro)
                        refine ⟨?rel, rfl⟩
                        case rel => exact ⟨t + 1, cs.take k ++ [x] ++ cs.drop k, by omega, by go_num, hO3.base HO.out.2, HAS.out, HME.out, by have := HCL.out; first | (simp; omega) | simp⟩
                      case measure => simp [intOf]; omega
                    · go_wp2_with fail
                      refine ⟨?_, ?measure⟩
                      · (repeat apply Exists.intro)
                        refine ⟨?rel, rfl⟩
                        case rel => exact ⟨t + 1, cs.take k ++ [x] ++ cs.drop k, by omega, by go_num, hO3.base HO.out.2, HAS.out, HME.out, by have := HCL.out; first | (simp; omega) | simp⟩
                      case measure => simp [intOf]; omega
              · obtain rfl : k = m := by omega
                clear hlt
                have hd1 : decide ((k : Int) < (k : Int)) = false := by simp
                have HAS : Hid (Asc (cs.take k ++ [x] ++ cs.drop k)) := Lib.hid (ins_asc cs x k HAsc.out HLO.out (by rw [HM.out, List.drop_length]; simp))
                have HME : Hid (∀ c, c ∈ cs.take k ++ [x] ++ cs.drop k ↔ c ∈ base ∨ c ∈ l.take (t + 1)) := Lib.hid (by intro c; rw [mem_take_succ l t hkl, HX.out, ← or_assoc, ← HMem.out c]; exact ins_mem cs x k c)
                have hk2 : (k : Int) ≤ (cO : Int) := by omega
                by_cases hck : cO = k
                · have HCK := Lib.hid hck
                  subst hck
                  have exA : Ext wB (wB.alloc (.cells #[.int .i64 x] 3)).drew := ((Ext.refl wB).alloc _ _).drew
                  have exB : Ext wB wB.drew := (Ext.refl wB).drew
                  have rlA : RdG (wB.alloc (.cells #[.int .i64 x] 3)).drew (.slice (some ⟨wB.heap.size, 0, none⟩) 1 1) [x] := rd_lit1I wB x 3 _ rfl
                  have EXA := Lib.hid exA
                  have EXB := Lib.hid exB
                  have RLA := Lib.hid rlA
                  clear exA exB rlA
                  have RT := Lib.hid (HO.out.rd.take cO HSL.out)
                  have RD := Lib.hid (HO.out.rd.dropI HKM.out)
                  rw [if_pos rfl, Nat.sub_self] at RD
                  go_wp2_with fail
                  go_region_held3 (fun _ => True) (trivial) (first | (refine step_appG tI rfl _ _ rfl wB _ ((cs.take cO) ++ [x]) rfl hO2 _ (cs.drop cO) rfl (RD.out.ext hO2.2) (by have := HCL.out; first | (simp; omega) | simp) ?_; intro v3 w3 hO3 hg3) | (refine step_appG tI rfl _ _ rfl wB _ (cs.take cO) rfl hO1 _ [x] rfl q1 (by have := HCL.out; first | (simp; omega) | simp) ?_; intro v2 w2 hO2 hg2) | (refine step_appG tI rfl _ _ rfl wB _ (cs.take cO) rfl (hO1.ext ((Ext.refl w1).alloc _ _)) _ [x] rfl (rd_lit1I w1 x 3 _ rfl) (by have := HCL.out; first | (simp; omega) | simp) ?_; intro v2 w2 hO2 hg2) | (refine step_appG tI rfl _ _ rfl wB _ [] rfl (OwnG.nil _ _ _ EXA.out) _ (cs.take cO) rfl (RT.out.ext EXA.out) (by have := HCL.out; first | (simp; omega) | simp) ?_; intro v1 w1 hO1 hg1; rw [List.nil_append] at hO1; have q1 : RdG w1 (.slice (some ⟨wB.heap.size, 0, none⟩) 1 1) [x] := RLA.out.ext (ext_grownBy (Ext.refl _) hg1 (fun kk hh => by cases hh))) | (refine step_appG tI rfl _ _ rfl wB _ [] rfl (OwnG.nil _ _ _ EXB.out) _ (cs.take cO) rfl (RT.out.ext EXB.out) (by have := HCL.out; first | (simp; omega) | simp) ?_; intro v1 w1 hO1 hg1; rw [List.nil_append] at hO1))
                  · go_wp2_with fail
                    refine ⟨?_, ?measure⟩
                    · (repeat apply Exists.intro)
                      refine ⟨?rel, rfl⟩
                      case rel => exact ⟨t + 1, cs.take cO ++ [x] ++ cs.drop cO, by omega, by go_num, hO3.base HO.out.2, HAS.out, HME.out, by have := HCL.out; first | (simp; omega) | simp⟩
                    case measure => simp [intOf]; omega
                  · go_wp2_with fail
                    refine ⟨?_, ?measure⟩
                    · (repeat apply Exists.intro)
                      refine ⟨?rel, rfl⟩
                      case rel => exact ⟨t + 1, cs.take cO ++ [x] ++ cs.drop cO, by omega, by go_num, hO3.base HO.out.2, HAS.out, HME.out, by have := HCL.out; first | (simp; omega) | simp⟩
                    case measure => simp [intOf]; omega
                · skip
                  have exA : Ext wB (wB.alloc (.cells #[.int .i64 x] 3)).drew := ((Ext.refl wB).alloc _ _).drew
                  have exB : Ext wB wB.drew := (Ext.refl wB).drew
                  have rlA : RdG (wB.alloc (.cells #[.int .i64 x] 3)).drew (.slice (some ⟨wB.heap.size, 0, none⟩) 1 1) [x] := rd_lit1I wB x 3 _ rfl
                  have EXA := Lib.hid exA
                  have EXB := Lib.hid exB
                  have RLA := Lib.hid rlA
                  clear exA exB rlA
                  have RT := Lib.hid (HO.out.rd.take k HSL.out)
                  have RD := Lib.hid (HO.out.rd.dropI HKM.out)
                  rw [if_neg hck, Nat.sub_self] at RD
                  go_wp2_with fail
                  go_region_held3 (fun _ => True) (trivial) (first | (refine step_appG tI rfl _ _ rfl wB _ ((cs.take k) ++ [x]) rfl hO2 _ (cs.drop k) rfl (RD.out.ext hO2.2) (by have := HCL.out; first | (simp; omega) | simp) ?_; intro v3 w3 hO3 hg3) | (refine step_appG tI rfl _ _ rfl wB _ (cs.take k) rfl hO1 _ [x] rfl q1 (by have := HCL.out; first | (simp; omega) | simp) ?_; intro v2 w2 hO2 hg2) | (refine step_appG tI rfl _ _ rfl wB _ (cs.take k) rfl (hO1.ext ((Ext.refl w1).alloc _ _)) _ [x] rfl (rd_lit1I w1 x 3 _ rfl) (by have := HCL.out; first | (simp; omega) | simp) ?_; intro v2 w2 hO2 hg2) | (refine step_appG tI rfl _ _ rfl wB _ [] rfl (OwnG.nil _ _ _ EXA.out) _ (cs.take k) rfl (RT.out.ext EXA.out) (by have := HCL.out; first | (simp; omega) | simp) ?_; intro v1 w1 hO1 hg1; rw [List.nil_append] at hO1; have q1 : RdG w1 (.slice (some ⟨wB.heap.size, 0, none⟩) 1 1) [x] := RLA.out.ext (ext_grownBy (Ext.refl _) hg1 (fun kk hh => by cases hh))) | (refine step_appG tI rfl _ _ rfl wB _ [] rfl (OwnG.nil _ _ _ EXB.out) _ (cs.take k) rfl (RT.out.ext EXB.out) (by have := HCL.out; first | (simp; omega) | simp) ?_; intro v1 w1 hO1 hg1; rw [List.nil_append] at hO1))
                  · go_wp2_with fail
                    refine ⟨?_, ?measure⟩
                    · (repeat apply Exists.intro)
                      refine ⟨?rel, rfl⟩
                      case rel => exact ⟨t + 1, cs.take k ++ [x] ++ cs.drop k, by omega, by go_num, hO3.base HO.out.2, HAS.out, HME.out, by have := HCL.out; first | (simp; omega) | simp⟩
                    case measure => simp [intOf]; omega
                  · go_wp2_with fail
                    refine ⟨?_, ?measure⟩
                    · (repeat apply Exists.intro)
                      refine ⟨?rel, rfl⟩
                      case rel => exact ⟨t + 1, cs.take k ++ [x] ++ cs.drop k, by omega, by go_num, hO3.base HO.out.2, HAS.out, HME.out, by have := HCL.out; first | (simp; omega) | simp⟩
                    case measure => simp [intOf]; omega
        · have hte : t = l.length := by omega
          subst hte
          have hend : decide ((l.length : Int) < (b.length : Int)) = false := by rw [← hl]; simp
          have HRES : Hid (∀ c, c ∈ cs ↔ (1 ≤ 1 + 1 ∧ c ∈ a) ∨ (2 ≤ 1 + 1 ∧ c ∈ b)) := Lib.hid (by
            intro c; rw [hmem c, HM0.out c, List.take_length, hl]; simp)
          have HLE : Hid (cs.length ≤ (if 1 ≤ 1 + 1 then a.length else 0) + (if 2 ≤ 1 + 1 then b.length else 0)) := Lib.hid (by
            have h0 := HL0.out; rw [hl] at hlen; simp at h0 ⊢; first | omega | (rw [h0] at hlen; simp at hlen; omega))
          have HO := Lib.hid hO
          have HAsc := Lib.hid hasc
          clear hO hasc hmem hlen HO0 HA0 HM0 HL0
          go_wp2_with fail
          go_roundw
          case rel => exact ⟨1 + 1, cs, by omega, by go_num, HO.out, HAsc.out, HRES.out, HLE.out⟩
          case measure => simp [intOf]
    · go_wp2_with fail
      go_ret
      exact ⟨_, base, rfl, hO, hasc, by intro c; rw [hmem c]; simp, by simpa using hlen⟩
end Go.Proofs.YtnckdopphimgoaaGreat
