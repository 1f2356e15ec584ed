/- Coalesce, by the program. -/
import Derived.Test.YtnckdopphimgoaaZz18
import Derived.Test.YtnckdopphimgoaaZz22
import Derived.Test.YtnckdopphimgoaaZz35
namespace Go.Proofs.Ytnckdopphimgoaa
open Go.ChangeShapes Go.WideShapes Go.ChangeAt Go.RowKit

set_option maxHeartbeats 8000000 in
set_option maxRecDepth 100000 in
theorem co_prg (ps : List TP) (v : Value) (w : World) (h : RdG w v ps) (hI : RdTs w ps) (hl : ps.length ≤ 100000) (hs : SmT ps) : Calls Try.prog 5 #[v] w (CoP ps w) := by
  obtain ⟨ad, cap, rfl, h1, h2⟩ := h.shape
  have H := Lib.hid h
  have HI := Lib.hid hI
  have HS := Lib.hid hs
  clear h hI hs
  unfold maxLen at h2
  obtain ⟨n, hn⟩ : ∃ n, n = ps.length := ⟨_, rfl⟩
  have HN := Lib.hid hn
  rw [← hn] at H h1 hl ⊢
  clear hn
  go_enter Try.func5, Try.ntmps5
  go_wp2_with fail
  go_loopw [3, 8] (CoR w (ps.map bareT)) (fun _ i _ => n - (intOf i).toNat)
  case atStart => exact ⟨0, Nat.zero_le _, rfl, by simpa using OwnG.nil _ _ _ (Ext.refl w)⟩
  case round =>
    obtain ⟨k, hk, rfl, hO⟩ := hrel
    rw [List.length_map] at hk
    have hkn : k ≤ n := by rw [HN.out]; exact hk
    by_cases hlt : k < n
    · have hlt' : k < ps.length := by rw [← HN.out]; exact hlt
      obtain ⟨g, o, rfl, c0', c1', c2', c3'⟩ := rd_T H.out k hlt'
      have c0 := hO.2.keeps c0'
      have c1 := hO.2.keeps c1'
      have c2 := hO.2.keeps c2'
      have c3 := hO.2.keeps c3'
      have hi0 : (0 : Int) ≤ (k : Int) := by omega
      have hi1 : (k : Int) < (n : Int) := by omega
      have HE := Lib.hid (List.take_succ_eq_append_getElem (l := ps.map bareT) (i := k) (by rw [List.length_map]; exact hlt'))
      rw [List.getElem_map] at HE
      have hln : ((ps.map bareT).take k).length ≤ 100000 := by rw [List.length_take, List.length_map]; omega
      clear c0' c1' c2' c3'
      generalize ps[k] = x at *
      obtain ⟨⟨xa, xn, xc, xb, xm, xd⟩, xr, pa, pb⟩ := x
      simp only [Hd.x, Hd.y] at c0 c1 c2 c3
      have HO := Lib.hid hO
      have HQN := Lib.hid hln
      generalize hqs : (ps.map bareT).take k = qs at *
      have HQS := Lib.hid hqs
      clear hO hln hqs
      go_wp2_with (at_builtin; refine appG tT rfl _ _ rfl w _ qs rfl ?a1 _ [(⟨⟨xa, xn, xc, none, 0, 0⟩, stp xr, pa, pb⟩ : TP)] rfl ?a2 ?a3 ?_; (case a1 => exact HO.out.ext (((Ext.refl wr).alloc _ _).alloc _ _)); (case a2 => exact rd_litG _ [(⟨⟨xa, xn, xc, none, 0, 0⟩, stp xr, pa, pb⟩ : TP)] #[Value.slice xa xn xc, .int .i64 pa, .int .i64 pb, Value.slice none 0 0] 31 _ 1 (alsz _ _).symm rfl (by simp) rfl); (case a3 => have := HQN.out; simp; omega); intro v5 w5 hO5 hg5)
      go_roundw
      case rel => exact ⟨k + 1, by rw [List.length_map]; exact hlt', by go_num, by rw [HE.out]; exact hO5⟩
      case measure => first | (simp [intOf]; done) | (simp [intOf]; omega)
    · have hke : k = n := by omega
      have hall : (ps.map bareT).take k = ps.map bareT := by rw [List.take_of_length_le]; rw [List.length_map, ← HN.out, hke]; exact Nat.le_refl _
      rw [hall] at hO
      have HO := Lib.hid hO
      clear hO hall
      go_wp2_with fail
      refine (norm_prg (ps.map bareT) _ wr HO.out.rd (HI.out.bare.ext HO.out.2) (by rw [List.length_map, ← HN.out]; exact hl) HS.out.bare).mono ?_
      rintro e w3 ⟨v3, qs, rfl, r1, r2, r3, r4, r5⟩
      go_wp2_with fail
      go_ret
      rw [tus_bare] at r3
      refine ⟨_, qs, rfl, r1, r2, r3, by rw [List.length_map] at r4; exact r4, HS.out.bare.nf (by rw [tus_bare]; exact r3), HO.out.2.trans r5⟩
end Go.Proofs.Ytnckdopphimgoaa
/- IsCoalesced, by the program. -/
namespace Go.Proofs.Ytnckdopphimgoaa
open Go.ChangeShapes Go.WideShapes Go.ChangeAt Go.RowKit

/-- what IsCoalesced gives -/
def IcP (l : List Tu) (w : World) (e : Ending) (w' : World) : Prop := ∃ b : Bool, e = .returned (.bool b) ∧ (∀ N, IsCo l N → b = tuB l N) ∧ Ext w w'
set_option maxHeartbeats 4000000 in
theorem isco_prg (ps : List TP) (v : Value) (w : World) (h : RdG w v ps) (hI : RdTs w ps) (hl : ps.length ≤ 100000) (hs : SmT ps) : Calls Try.prog 14 #[v] w (IcP (tus ps) w) := by
  have H := Lib.hid h
  have HI := Lib.hid hI
  have HL := Lib.hid hl
  have HS := Lib.hid hs
  clear h hI hl hs
  go_enter Try.func14, Try.ntmps14
  go_wp2_with fail
  refine (co_prg ps v w H.out HI.out HL.out HS.out).mono ?_; rintro e w1 ⟨v1, qs, rfl, r1, r2, r3, _, _, r5⟩
  have HR1 := Lib.hid r1
  have HR2 := Lib.hid r2
  have HR3 := Lib.hid r3
  have HE := Lib.hid r5
  clear r1 r2 r3 r5
  go_wp2_with fail
  refine (eqf_co ps qs v v1 w1 (H.out.ext HE.out) HR1.out (HI.out.ext HE.out) HR2.out).mono ?_; rintro e w2 ⟨rfl, hE2⟩
  go_wp2_with fail
  go_ret
  exact ⟨_, rfl, fun N hN => by rw [IsNf.unique hN HR3.out], HE.out.trans hE2⟩
end Go.Proofs.Ytnckdopphimgoaa
/- The laws' IntValue. -/
namespace Go.Proofs.Ytnckdopphimgoaa
open Go.ChangeShapes Go.WideShapes Go.ChangeAt Go.RowKit

set_option maxHeartbeats 1000000 in
theorem int_val (z : Int) (w : World) : Calls Try.prog 32 #[.int .i64 z] w fun e w' => e = .returned (vv ⟨1, z, []⟩) ∧ Ext w w' := by
  go_enter Try.func32, Try.ntmps32
  go_wp2_with fail
  exact bodyPost_ret (v := vv ⟨1, z, []⟩) (by simp [results, Try.results32, go_sem, vv]) rfl ⟨rfl, by repeat (first | exact Ext.refl _ | refine Ext.alloc ?_ _ _ | refine Ext.setNew ?_ _ _ (by simp; try omega) _)⟩
end Go.Proofs.Ytnckdopphimgoaa
