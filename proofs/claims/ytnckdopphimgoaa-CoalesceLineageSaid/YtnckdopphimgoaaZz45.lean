/- The laws' builder of lists of tuples. -/
import Derived.Test.YtnckdopphimgoaaZz10
import Derived.Test.YtnckdopphimgoaaZz14
import Derived.Test.YtnckdopphimgoaaZz20
import Derived.Test.YtnckdopphimgoaaZz34
import Derived.Test.YtnckdopphimgoaaZz35
import Derived.Test.YtnckdopphimgoaaZz42
import Derived.Test.YtnckdopphimgoaaZz44
namespace Go.Proofs.Ytnckdopphimgoaa
open Go.ChangeShapes Go.WideShapes Go.ChangeAt Go.RowKit

/-- small values, lineages of 1 to 5 -/
def GdR (r : R) : Prop := (∀ v ∈ r.v, SmV v) ∧ ∀ x ∈ r.t, 1 ≤ x ∧ x ≤ 5
/-- what a tuple of the builder is -/
def TsOk (W w : World) (t : TP) : Prop := (RdG w t.h.x t.r.v ∧ RdG w t.h.y t.r.t) ∧ (Off tT.e W w t.h.x ∧ Off tT.e W w t.h.y) ∧ t.r.v.length = 2 ∧ t.r.t.length = 1 ∧ GdR t.r
theorem TsOk.ext {W w w' : World} {t : TP} (h : TsOk W w t) (k : Ext w w') : TsOk W w' t := ⟨⟨h.1.1.ext k, h.1.2.ext k⟩, ⟨h.2.1.1.ext k, h.2.1.2.ext k⟩, h.2.2⟩
theorem TsOk.grw {W w w' : World} {t : TP} {b : Option Nat} (h : TsOk W w t) (k : Grw w w' b) (hb : RowBlk tT.e W w b) : TsOk W w' t :=
  ⟨⟨h.1.1.grw h.2.1.1 k hb, h.1.2.grw h.2.1.2 k hb⟩, ⟨h.2.1.1.grw k hb, h.2.1.2.grw k hb⟩, h.2.2⟩
def TuR (M : Nat) (w : World) (vo i : Value) (wr : World) : Prop := ∃ (k : Nat) (ts : List TP), k ≤ M ∧ i = .int .i64 k ∧ OwnG tT.e w wr vo ts ∧ (∀ t ∈ ts, TsOk w wr t) ∧ ts.length = k
/-- what Tuples returns -/
def TuP (M : Nat) (w : World) (e : Ending) (w' : World) : Prop := ∃ (v : Value) (ts : List TP), e = .returned v ∧ OwnG tT.e w w' v ts ∧ (∀ t ∈ ts, TsOk w w' t) ∧ ts.length ≤ M
theorem tu_next {w X w5 : World} {vo : Value} {ts : List TP} {p : TP} (hO : OwnG tT.e w X vo ts) (hT : ∀ t ∈ ts, TsOk w X t) (hp : TsOk w X p) (hg : X.grownBy w5 vo.ownBlock) : ∀ t ∈ ts ++ [p], TsOk w w5 t := fun t ht => by
  rcases List.mem_append.1 ht with ht | ht
  · exact (hT t ht).grw (grw_by hg) hO.blk
  · obtain rfl := List.mem_singleton.1 ht
    exact hp.grw (grw_by hg) hO.blk
set_option maxHeartbeats 8000000 in
set_option maxRecDepth 100000 in
theorem tuples_law (M : Nat) (hM : M ≤ 30) (l : List Five) (v : Value) (w : World) (h : RdG w v l) (hok : ∀ x ∈ l, x.ok) : Calls Try.prog 6 #[v, .int .i64 M] w (TuP M w) := by
  obtain ⟨ad, cap, rfl, h1, h2⟩ := h.shape
  have H := Lib.hid h
  have HK := Lib.hid hok
  clear h hok
  unfold maxLen at h2
  obtain ⟨n, hn⟩ : ∃ n, n = l.length := ⟨_, rfl⟩
  have HN := Lib.hid hn
  rw [← hn] at H h1 ⊢
  clear hn
  go_enter Try.func6, Try.ntmps6
  go_wp2_with fail
  go_loopw [5, 6] (TuR M w) (fun _ i _ => M - (intOf i).toNat)
  case atStart => exact ⟨0, [], by omega, rfl, OwnG.nil _ _ _ (Ext.refl _), (fun t h => by cases h), rfl⟩
  case round =>
    obtain ⟨k, ts, hk, rfl, hO, hT, hl⟩ := hrel
    have hi0 : (0 : Int) ≤ (k : Int) := Int.natCast_nonneg _
    by_cases hlt : k < n
    · have hi1 : (k : Int) < (n : Int) := by omega
      by_cases hlt2 : k < M
      · have hi2 : (k : Int) < (M : Int) := by omega
        have hlt' : k < l.length := by rw [← HN.out]; exact hlt
        obtain ⟨g, o, rfl, c0', c1', c2', c3', c4'⟩ := rd_Five H.out k hlt'
        have c0 := hO.2.keeps c0'
        have c1 := hO.2.keeps c1'
        have c2 := hO.2.keeps c2'
        have c3 := hO.2.keeps c3'
        have c4 := hO.2.keeps c4'
        have hx := HK.out l[k] (List.getElem_mem _)
        clear c0' c1' c2' c3' c4'
        generalize l[k] = x at *
        obtain ⟨xa, xb, xc, xd, xe⟩ := x
        simp only at c0 c1 c2 c3 c4
        have HL := Lib.hid (fun w => tuple_law ⟨xa, xb, xc, xd, xe⟩ hx w)
        have HO := Lib.hid hO
        have HT := Lib.hid hT
        have HLN := Lib.hid hl
        clear hx hO hT hl
        go_wp2_with fail
        refine (HL.out _).mono ?_; rintro e w1 ⟨v1, l1, v2, l2, pa, pb, rfl, o1, o2, n1, n2, n3, n4⟩
        obtain ⟨a3, c5, rfl, _, _⟩ := o1.rd.shape
        obtain ⟨a4, c6, rfl, _, _⟩ := o2.rd.shape
        have hp : TsOk w (w1.alloc (.cells #[.slice a3 l1.length c5, .int .i64 pa, .int .i64 pb, .slice a4 l2.length c6] 31)) ⟨⟨a3, l1.length, c5, a4, l2.length, c6⟩, ⟨l1, l2⟩, pa, pb⟩ :=
          ⟨⟨o1.rd.ext ((Ext.refl _).alloc _ _), o2.rd.ext ((Ext.refl _).alloc _ _)⟩, ⟨(o1.off (by decide)).ext ((Ext.refl _).alloc _ _), (o2.off (by decide)).ext ((Ext.refl _).alloc _ _)⟩, n1, n2, n3, n4⟩
        have HP := Lib.hid hp
        have E1 := Lib.hid (show Ext wr (w1.alloc (.cells #[.slice a3 l1.length c5, .int .i64 pa, .int .i64 pb, .slice a4 l2.length c6] 31)) from o1.2.alloc _ _)
        clear hp o1 o2 n1 n2 n3 n4
        go_wp2_with (at_builtin; refine appG tT rfl _ _ rfl w _ ts rfl ?a1 _ [(⟨⟨a3, l1.length, c5, a4, l2.length, c6⟩, ⟨l1, l2⟩, pa, pb⟩ : TP)] rfl ?a2 ?a3 ?_; (have z1 := HO.out.ext E1.out; case a1 => exact z1); (have z2 := rd_litG w1 [(⟨⟨a3, l1.length, c5, a4, l2.length, c6⟩, ⟨l1, l2⟩, pa, pb⟩ : TP)] #[.slice a3 l1.length c5, .int .i64 pa, .int .i64 pb, .slice a4 l2.length c6] 31 _ 1 rfl rfl (by simp) rfl; case a2 => exact z2); (case a3 => have := HLN.out; simp; omega); intro v5 w5 hO5 hg5)
        go_roundw
        case rel => exact ⟨k + 1, _, by omega, by go_num, hO5, tu_next (HO.out.ext E1.out) (fun t ht => (HT.out t ht).ext E1.out) HP.out hg5, by rw [List.length_append, HLN.out]; rfl⟩
        case measure => simp [intOf]; omega
      · have hi2 : ¬ (k : Int) < (M : Int) := by omega
        go_wp2_with fail
        go_ret
        exact ⟨_, ts, rfl, hO, hT, by omega⟩
    · go_wp2_with fail
      go_ret
      exact ⟨_, ts, rfl, hO, hT, by omega⟩
end Go.Proofs.Ytnckdopphimgoaa
/- What the builder's tuples are. -/
namespace Go.Proofs.Ytnckdopphimgoaa
open Go.ChangeShapes Go.WideShapes Go.ChangeAt Go.RowKit

/-- what Tuples gives, «as» these proofs want it -/
def BlP (M : Nat) (w : World) (e : Ending) (w' : World) : Prop := ∃ (v : Value) (ts : List TP), e = .returned v ∧ OwnG tT.e w w' v ts ∧ RdTs w' ts ∧ SmT ts ∧ ts.length ≤ M
theorem built (M : Nat) (hM : M ≤ 30) (l : List Five) (v : Value) (w : World) (h : RdG w v l) (hok : ∀ x ∈ l, x.ok) : Calls Try.prog 6 #[v, .int .i64 M] w (BlP M w) :=
  (tuples_law M hM l v w h hok).mono fun _ _ ⟨v, ts, a, b, c, d⟩ => ⟨v, ts, a, b, fun t ht => (c t ht).1, fun t ht => by
    have := (c t ht).2.2
    omega, d⟩
theorem eqv_refl (l : List Tu) : EqvP l l := fun _ _ => rfl
theorem few_sm {ps : List TP} {k : Int} (h : FewT ps k) : SmT ps := fun p hp => by have := h.2 p hp; omega
end Go.Proofs.Ytnckdopphimgoaa
/- Tuples whose parts lie off a row. -/
namespace Go.Proofs.Ytnckdopphimgoaa
open Go.ChangeShapes Go.WideShapes Go.ChangeAt Go.RowKit

theorem own_blkG {α : Type} [Enc α] {e : TypeId} {W w : World} {v : Value} {l : List α} (h : OwnG e W w v l) (hl : l.length ≠ 0) : ∃ g cap, v = .slice (some ⟨g, 0, none⟩) l.length cap ∧ l.length ≤ cap ∧ cap ≤ maxLen := by
  rcases h.1.2 with ⟨_, e⟩ | ⟨g, cap, cur, e, _, _, hc, hm, _⟩
  · exact absurd e hl
  · exact ⟨g, cap, e, hc, hm⟩
def TpO (W w : World) (p : TP) : Prop := RdT w p ∧ Off tT.e W w p.h.x ∧ Off tT.e W w p.h.y
theorem TpO.ext {W w w' : World} {p : TP} (h : TpO W w p) (k : Ext w w') : TpO W w' p := ⟨h.1.ext k, h.2.1.ext k, h.2.2.ext k⟩
end Go.Proofs.Ytnckdopphimgoaa
/- Other lineages are stored into a copy. -/
namespace Go.Proofs.Ytnckdopphimgoaa
open Go.ChangeShapes Go.WideShapes Go.ChangeAt Go.RowKit

/-- the call's own tuples that are, without their lineages, these -/
def LnO (W w : World) (v : Value) (l : List Tu) : Prop := ∃ us, OwnG tT.e W w v us ∧ (∀ p ∈ us, TpO W w p) ∧ SmT us ∧ nls (tus us) = l
theorem lin_next {W w : World} {g n cap k gy ny cy : Nat} {z : Int} {ps : List TP} {l : List Tu} (hn : n = ps.length) (hO : OwnG tT.e W w (.slice (some ⟨g, 0, none⟩) n cap) ps) (hI : ∀ p ∈ ps, TpO W w p) (hS : SmT ps) (hT : nls (tus ps) = l) (hk : k < ps.length)
    (hy : OwnG tI.e W w (.slice (some ⟨gy, 0, none⟩) ny cy) [z]) : LnO W (w.setCell ⟨g, k * 4 + 3, none⟩ (.slice (some ⟨gy, 0, none⟩) ny cy)) (.slice (some ⟨g, 0, none⟩) n cap) l := by
  subst hn
  have hg := (hO.1.stored (k * Enc.sz TP + 3) (.slice (some ⟨gy, 0, none⟩) ny cy)).2
  have hp0 := hI ps[k] (List.getElem_mem _)
  have hs0 := hS ps[k] (List.getElem_mem _)
  generalize hpk : ps[k] = p at *
  obtain ⟨⟨xa, xn, xc, xb, xm, xd⟩, ⟨rv, rt⟩, a, b⟩ := p
  have hs := own_setJ hO k 3 hk (by decide) (⟨⟨xa, xn, xc, some ⟨gy, 0, none⟩, ny, cy⟩, ⟨rv, [z]⟩, a, b⟩ : TP) (.slice (some ⟨gy, 0, none⟩) ny cy) (by rw [hpk]; rfl)
  refine ⟨_, hs, fun p hp => ?_, fun p hp => ?_, ?_⟩
  · rcases List.mem_or_eq_of_mem_set hp with hp | rfl
    · exact RdT.grw (hI p hp) (grw_by hg) hO.blk
    · exact RdT.grw ⟨⟨hp0.1.1, hy.rd⟩, hp0.2.1, hy.off (by decide)⟩ (grw_by hg) hO.blk
  · rcases List.mem_or_eq_of_mem_set hp with hp | rfl
    · exact hS p hp
    · exact ⟨hs0.1, by simp⟩
  · rw [← hT]
    unfold tus nls
    rw [List.map_map, List.map_map, List.map_set]
    have e : (nl ∘ TP.tu) (⟨⟨xa, xn, xc, some ⟨gy, 0, none⟩, ny, cy⟩, ⟨rv, [z]⟩, a, b⟩ : TP) = (ps.map (nl ∘ TP.tu))[k]'(by rw [List.length_map]; exact hk) := by
      rw [List.getElem_map, hpk]
      rfl
    rw [e, List.set_getElem_self]
/-- the rounds of the loop -/
def LnR (W : World) (n : Nat) (l : List Tu) (v : Value) (i : Value) (wr : World) : Prop := ∃ k : Nat, k ≤ n ∧ i = .int .i64 k ∧ LnO W wr v l
theorem lno_len {ts us : List TP} (h : nls (tus us) = nls (tus ts)) : us.length = ts.length := by
  have h1 := congrArg List.length h
  rwa [nls_len, nls_len, tus_len, tus_len] at h1
end Go.Proofs.Ytnckdopphimgoaa
