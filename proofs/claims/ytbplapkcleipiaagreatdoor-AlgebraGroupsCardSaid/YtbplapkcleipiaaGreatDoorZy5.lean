/- The laws' builder of lists of tuples. -/
import Derived.Test.YtbplapkcleipiaaGreatDoorZy4
namespace Go.Proofs.YtbplapkcleipiaaGreatDoor
open Go.ChangeShapes Go.WideShapes Go.ChangeAt Go.RowKit

/-- small values, lineages of 1 to 5 -/
def GdR (r : R) : Prop := (∀ v ∈ r.v, SmV v) ∧ ∀ x ∈ r.t, 1 ≤ x ∧ x ≤ 5
/-- what a tuple of the builder is -/
def TsOk (W w : World) (t : TP) : Prop := (RdG w t.h.x t.r.v ∧ RdG w t.h.y t.r.t) ∧ (Off tT.e W w t.h.x ∧ Off tT.e W w t.h.y) ∧ t.r.v.length = 2 ∧ t.r.t.length = 1 ∧ GdR t.r
theorem TsOk.ext {W w w' : World} {t : TP} (h : TsOk W w t) (k : Ext w w') : TsOk W w' t := ⟨⟨h.1.1.ext k, h.1.2.ext k⟩, ⟨h.2.1.1.ext k, h.2.1.2.ext k⟩, h.2.2⟩
theorem TsOk.grw {W w w' : World} {t : TP} {b : Option Nat} (h : TsOk W w t) (k : Grw w w' b) (hb : RowBlk tT.e W w b) : TsOk W w' t :=
  ⟨⟨h.1.1.grw h.2.1.1 k hb, h.1.2.grw h.2.1.2 k hb⟩, ⟨h.2.1.1.grw k hb, h.2.1.2.grw k hb⟩, h.2.2⟩
def TuR (M : Nat) (w : World) (vo i : Value) (wr : World) : Prop := ∃ (k : Nat) (ts : List TP), k ≤ M ∧ i = .int .i64 k ∧ OwnG tT.e w wr vo ts ∧ (∀ t ∈ ts, TsOk w wr t) ∧ ts.length = k
/-- what Tuples returns -/
def TuP (M : Nat) (w : World) (e : Ending) (w' : World) : Prop := ∃ (v : Value) (ts : List TP), e = .returned v ∧ OwnG tT.e w w' v ts ∧ (∀ t ∈ ts, TsOk w w' t) ∧ ts.length ≤ M
theorem tu_next {w X w5 : World} {vo : Value} {ts : List TP} {p : TP} (hO : OwnG tT.e w X vo ts) (hT : ∀ t ∈ ts, TsOk w X t) (hp : TsOk w X p) (hg : X.grownBy w5 vo.ownBlock) : ∀ t ∈ ts ++ [p], TsOk w w5 t := fun t ht => by
  rcases List.mem_append.1 ht with ht | ht
  · exact (hT t ht).grw (grw_by hg) hO.blk
  · obtain rfl := List.mem_singleton.1 ht
    exact hp.grw (grw_by hg) hO.blk
set_option maxHeartbeats 8000000 in
set_option maxRecDepth 100000 in
theorem tuples_law (M : Nat) (hM : M ≤ 30) (l : List Five) (v : Value) (w : World) (h : RdG w v l) (hok : ∀ x ∈ l, x.ok) : Calls Tryz.prog 27 #[v, .int .i64 M] w (TuP M w) := by
  obtain ⟨ad, cap, rfl, h1, h2⟩ := h.shape
  have H := Lib.hid h
  have HK := Lib.hid hok
  clear h hok
  unfold maxLen at h2
  obtain ⟨n, hn⟩ : ∃ n, n = l.length := ⟨_, rfl⟩
  have HN := Lib.hid hn
  rw [← hn] at H h1 ⊢
  clear hn
  go_enter Tryz.func27, Tryz.ntmps27
  go_wp2_with fail
  go_loopw [5, 6] (TuR M w) (fun _ i _ => M - (intOf i).toNat)
  case atStart => exact ⟨0, [], by omega, rfl, OwnG.nil _ _ _ (Ext.refl _), (fun t h => by cases h), rfl⟩
  case round =>
    obtain ⟨k, ts, hk, rfl, hO, hT, hl⟩ := hrel
    have hi0 : (0 : Int) ≤ (k : Int) := Int.natCast_nonneg _
    by_cases hlt : k < n
    · have hi1 : (k : Int) < (n : Int) := by omega
      by_cases hlt2 : k < M
      · have hi2 : (k : Int) < (M : Int) := by omega
        have hlt' : k < l.length := by rw [← HN.out]; exact hlt
        obtain ⟨g, o, rfl, c0', c1', c2', c3', c4'⟩ := rd_Five H.out k hlt'
        have c0 := hO.2.keeps c0'
        have c1 := hO.2.keeps c1'
        have c2 := hO.2.keeps c2'
        have c3 := hO.2.keeps c3'
        have c4 := hO.2.keeps c4'
        have hx := HK.out l[k] (List.getElem_mem _)
        clear c0' c1' c2' c3' c4'
        generalize l[k] = x at *
        obtain ⟨xa, xb, xc, xd, xe⟩ := x
        simp only at c0 c1 c2 c3 c4
        have HL := Lib.hid (fun w => tuple_law ⟨xa, xb, xc, xd, xe⟩ hx w)
        have HO := Lib.hid hO
        have HT := Lib.hid hT
        have HLN := Lib.hid hl
        clear hx hO hT hl
        go_wp2_with fail
        refine (HL.out _).mono ?_; rintro e w1 ⟨v1, l1, v2, l2, pa, pb, rfl, o1, o2, n1, n2, n3, n4⟩
        obtain ⟨a3, c5, rfl, _, _⟩ := o1.rd.shape
        obtain ⟨a4, c6, rfl, _, _⟩ := o2.rd.shape
        have hp : TsOk w (w1.alloc (.cells #[.slice a3 l1.length c5, .int .i64 pa, .int .i64 pb, .slice a4 l2.length c6] 84)) ⟨⟨a3, l1.length, c5, a4, l2.length, c6⟩, ⟨l1, l2⟩, pa, pb⟩ :=
          ⟨⟨o1.rd.ext ((Ext.refl _).alloc _ _), o2.rd.ext ((Ext.refl _).alloc _ _)⟩, ⟨(o1.off (by decide)).ext ((Ext.refl _).alloc _ _), (o2.off (by decide)).ext ((Ext.refl _).alloc _ _)⟩, n1, n2, n3, n4⟩
        have HP := Lib.hid hp
        have E1 := Lib.hid (show Ext wr (w1.alloc (.cells #[.slice a3 l1.length c5, .int .i64 pa, .int .i64 pb, .slice a4 l2.length c6] 84)) from o1.2.alloc _ _)
        clear hp o1 o2 n1 n2 n3 n4
        go_wp2_with (at_builtin; refine appG tT rfl _ _ rfl w _ ts rfl ?a1 _ [(⟨⟨a3, l1.length, c5, a4, l2.length, c6⟩, ⟨l1, l2⟩, pa, pb⟩ : TP)] rfl ?a2 ?a3 ?_; (have z1 := HO.out.ext E1.out; case a1 => exact z1); (have z2 := rd_litG w1 [(⟨⟨a3, l1.length, c5, a4, l2.length, c6⟩, ⟨l1, l2⟩, pa, pb⟩ : TP)] #[.slice a3 l1.length c5, .int .i64 pa, .int .i64 pb, .slice a4 l2.length c6] 84 _ 1 rfl rfl (by simp) rfl; case a2 => exact z2); (case a3 => have := HLN.out; simp; omega); intro v5 w5 hO5 hg5)
        go_roundw
        case rel => exact ⟨k + 1, _, by omega, by go_num, hO5, tu_next (HO.out.ext E1.out) (fun t ht => (HT.out t ht).ext E1.out) HP.out hg5, by rw [List.length_append, HLN.out]; rfl⟩
        case measure => simp [intOf]; omega
      · have hi2 : ¬ (k : Int) < (M : Int) := by omega
        go_wp2_with fail
        go_ret
        exact ⟨_, ts, rfl, hO, hT, by omega⟩
    · go_wp2_with fail
      go_ret
      exact ⟨_, ts, rfl, hO, hT, by omega⟩
end Go.Proofs.YtbplapkcleipiaaGreatDoor
/- The laws' builder of lists of rows. -/
namespace Go.Proofs.YtbplapkcleipiaaGreatDoor
open Go.ChangeShapes Go.WideShapes Go.ChangeAt Go.RowKit

/-- what the builder's rows are -/
def BrP (M : Nat) (w : World) (e : Ending) (w' : World) : Prop := ∃ (v : Value) (ps : List P), e = .returned v ∧ RdG w' v ps ∧ RdAll w' ps ∧ ps.length ≤ M ∧ (∀ p ∈ ps, p.r.v.length = 2 ∧ p.r.t.length = 1 ∧ GdR p.r) ∧ Ext w w'
def BrR (M : Nat) (W : World) (vo i : Value) (wr : World) : Prop := ∃ (k : Nat) (ps : List P), k ≤ M ∧ i = .int .i64 k ∧ OwnG tP.e W wr vo ps ∧ RdAll W ps ∧ ps.length = k ∧ (∀ p ∈ ps, p.r.v.length = 2 ∧ p.r.t.length = 1 ∧ GdR p.r)
set_option maxHeartbeats 8000000 in
set_option maxRecDepth 100000 in
theorem rows_law (M : Nat) (hM : M ≤ 30) (l : List Five) (v : Value) (w : World) (h : RdG w v l) (hok : ∀ x ∈ l, x.ok) : Calls Tryz.prog 11 #[v, .int .i64 M] w (BrP M w) := by
  have H := Lib.hid h
  have HK := Lib.hid hok
  clear h hok
  go_enter Tryz.func11, Tryz.ntmps11
  go_wp2_with fail
  refine (tuples_law M hM l v w H.out HK.out).mono ?_; rintro e w1 ⟨v1, ts, rfl, hO, hT, hl⟩
  obtain ⟨ad, cap, rfl, h1, h2⟩ := hO.rd.shape
  have HR := Lib.hid hO.rd
  have HE := Lib.hid hO.2
  have HT := Lib.hid hT
  unfold maxLen at h2
  obtain ⟨n, hn⟩ : ∃ n, n = ts.length := ⟨_, rfl⟩
  have HN := Lib.hid hn
  rw [← hn] at HR h1 hl ⊢
  clear hn hO hT
  go_wp2_with fail
  go_loopw [5, 12] (BrR M w1) (fun _ i _ => n - (intOf i).toNat)
  case atStart => exact ⟨0, [], by omega, rfl, OwnG.nil _ _ _ (Ext.refl _), (fun t h => by cases h), rfl, (fun t h => by cases h)⟩
  case round =>
    obtain ⟨k, ps, hk, rfl, hO, hI, hpl, hS⟩ := hrel
    by_cases hlt : k < n
    · have hlt' : k < ts.length := by rw [← HN.out]; exact hlt
      obtain ⟨g, o, rfl, c0', c1', c2', c3'⟩ := rd_T HR.out k hlt'
      have c0 := hO.2.keeps c0'
      have c1 := hO.2.keeps c1'
      have c2 := hO.2.keeps c2'
      have c3 := hO.2.keeps c3'
      have hx := HT.out ts[k] (List.getElem_mem _)
      clear c0' c1' c2' c3'
      generalize ts[k] = x at *
      obtain ⟨⟨xa, xn, xc, xb, xm, xd⟩, xr, pa, pb⟩ := x
      simp only [Hd.x, Hd.y] at c0 c1 c2 c3
      have HP := Lib.hid (show RdRow w1 ⟨⟨xa, xn, xc, xb, xm, xd⟩, xr⟩ from ⟨hx.1.1, hx.1.2⟩)
      have HPS := Lib.hid (show xr.v.length = 2 ∧ xr.t.length = 1 ∧ GdR xr from hx.2.2)
      have HO := Lib.hid hO
      have HI := Lib.hid hI
      have HS := Lib.hid hS
      have HPL := Lib.hid hpl
      clear hx hO hI hS hpl
      go_wp2_with (at_builtin; refine appG tP rfl _ _ rfl w1 _ ps rfl ?a1 _ [(⟨⟨xa, xn, xc, xb, xm, xd⟩, xr⟩ : P)] rfl ?a2 ?a3 ?_; (have z1 := HO.out.ext (((Ext.refl wr).alloc #[.slice xa xn xc, .int .i64 pa, .int .i64 pb, .slice xb xm xd] 84).alloc #[.slice xa xn xc, .slice xb xm xd] 51); case a1 => exact z1); (have z2 := rd_litG (wr.alloc (.cells #[.slice xa xn xc, .int .i64 pa, .int .i64 pb, .slice xb xm xd] 84)) [(⟨⟨xa, xn, xc, xb, xm, xd⟩, xr⟩ : P)] #[.slice xa xn xc, .slice xb xm xd] 51 _ 1 rfl rfl (by simp) rfl; rw [alsz] at z2; case a2 => exact z2); (case a3 => have := HPL.out; simp; omega); intro v5 w5 hO5 hg5)
      go_roundw
      case rel => exact ⟨k + 1, _, by omega, by go_num, hO5, (fun p hp => by
        rcases List.mem_append.1 hp with hp | hp
        · exact HI.out p hp
        · rw [List.mem_singleton.1 hp]; exact HP.out), by rw [List.length_append, HPL.out]; rfl, (fun p hp => by
        rcases List.mem_append.1 hp with hp | hp
        · exact HS.out p hp
        · rw [List.mem_singleton.1 hp]; exact HPS.out)⟩
      case measure => simp [intOf]; omega
    · have HO := Lib.hid hO
      clear hO
      go_wp2_with fail
      go_ret
      exact ⟨_, ps, rfl, HO.out.rd, (fun p hp => (hI p hp).ext HO.out.2), by omega, hS, HE.out.trans HO.out.2⟩
end Go.Proofs.YtbplapkcleipiaaGreatDoor
