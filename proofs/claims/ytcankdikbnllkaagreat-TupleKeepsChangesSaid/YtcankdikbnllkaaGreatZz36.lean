/- Boundaries, by the program and by the reference. -/
import Derived.Test.YtcankdikbnllkaaGreatZz08
import Derived.Test.YtcankdikbnllkaaGreatZz10
import Derived.Test.YtcankdikbnllkaaGreatZz12
import Derived.Test.YtcankdikbnllkaaGreatZz18
import Derived.Test.YtcankdikbnllkaaGreatZz19
import Derived.Test.YtcankdikbnllkaaGreatZz35
namespace Go.Proofs.YtcankdikbnllkaaGreat
open Go.ChangeShapes Go.WideShapes Go.ChangeAt Go.RowKit

/-- the ends of the valid periods, «as» they come -/
def bds (ps : List TP) : List Int := ps.flatMap fun p => if okV p.a p.b = true then [p.a, p.b] else []
theorem bds_next {ps : List TP} {k : Nat} (hk : k < ps.length) : bds (ps.take (k + 1)) = bds (ps.take k) ++ (if okV ps[k].a ps[k].b = true then [ps[k].a, ps[k].b] else []) := by
  unfold bds
  rw [List.take_succ_eq_append_getElem hk, List.flatMap_append]
  simp
theorem bds_len (ps : List TP) : (bds ps).length ≤ 2 * ps.length := by
  unfold bds
  induction ps with
  | nil => simp
  | cons p ps ih =>
    rw [List.flatMap_cons, List.length_append, List.length_cons]
    split
    · simp only [List.length_cons, List.length_nil]; omega
    · simp only [List.length_nil]; omega
theorem bds_mem (ps : List TP) (e : Int) : e ∈ bds ps ↔ ∃ p ∈ prs (tus ps), okP p ∧ (e = p.1 ∨ e = p.2) := by
  unfold bds
  rw [List.mem_flatMap]
  constructor
  · rintro ⟨p, hp, he⟩
    split at he
    · rename_i hk
      refine ⟨(p.a, p.b), List.mem_map.2 ⟨p.tu, List.mem_map.2 ⟨p, hp, rfl⟩, rfl⟩, (okV_iff _ _).1 hk, ?_⟩
      simpa using he
    · cases he
  · rintro ⟨q, hq, hk, he⟩
    obtain ⟨x, hx, rfl⟩ := List.mem_map.1 hq
    obtain ⟨p, hp, rfl⟩ := List.mem_map.1 hx
    refine ⟨p, hp, ?_⟩
    rw [if_pos ((okV_iff _ _).2 hk)]
    simpa using he
def BdR (w : World) (ps : List TP) (u i : Value) (wr : World) : Prop := ∃ k : Nat, k ≤ ps.length ∧ i = .int .i64 k ∧ OwnG tI.e w wr u (bds (ps.take k))
def BdQ (w : World) (ps : List TP) (u i : Value) (wr : World) : Prop := ∃ (k : Nat) (os : List Int), k ≤ ps.length ∧ i = .int .i64 k ∧ OwnG tI.e w wr u os ∧ Hid (os.Pairwise (· < ·)) ∧ Hid (∀ e, e ∈ os ↔ e ∈ bds (ps.take k)) ∧ os.length ≤ 2 * k
/-- the boundaries -/
def BdP (ps : List TP) (w : World) (e : Ending) (w' : World) : Prop := ∃ v' pts, e = .returned v' ∧ RdG w' v' pts ∧ IsBd (prs (tus ps)) pts ∧ Ext w w'
def BdO (ps : List TP) (w : World) (e : Ending) (w' : World) : Prop := ∃ v' pts, e = .returned v' ∧ OwnG tI.e w w' v' pts ∧ IsBd (prs (tus ps)) pts ∧ pts.length ≤ 2 * ps.length
theorem Lib_compact_le (l : List Int) : (Lib.compact l).length ≤ l.length := by unfold Lib.compact Lib.compactUpTo; rw [List.length_map]; exact Nat.le_trans (List.length_filter_le _ _) (by simp)
set_option maxHeartbeats 8000000 in
set_option maxRecDepth 100000 in
theorem bounds_prgO (ps : List TP) (v : Value) (w : World) (h : RdG w v ps) (hl : ps.length ≤ 100000) : Calls Tryz.prog 19 #[v] w (BdO ps w) := by
  obtain ⟨ad, cap, rfl, h1, h2⟩ := h.shape
  have H := Lib.hid h
  clear h
  unfold maxLen at h2
  obtain ⟨n, hn⟩ : ∃ n, n = ps.length := ⟨_, rfl⟩
  have HN := Lib.hid hn
  rw [← hn] at H h1 hl ⊢
  clear hn
  go_enter Tryz.func19, Tryz.ntmps19
  go_wp2_with fail
  go_loopw [3, 8] (BdR w ps) (fun _ i _ => n - (intOf i).toNat)
  case atStart => exact ⟨0, Nat.zero_le _, rfl, OwnG.nil _ _ _ (Ext.refl _)⟩
  case round =>
    obtain ⟨k, hk, rfl, hO⟩ := hrel
    have hkn : k ≤ n := by rw [HN.out]; exact hk
    by_cases hlt : k < n
    · have hlt' : k < ps.length := by rw [← HN.out]; exact hlt
      obtain ⟨g, o, rfl, c0', c1', c2', c3'⟩ := rd_T H.out k hlt'
      have c0 := hO.2.keeps c0'
      have c1 := hO.2.keeps c1'
      have c2 := hO.2.keeps c2'
      have c3 := hO.2.keeps c3'
      clear c0' c1' c2' c3'
      have HEN := Lib.hid (bds_next hlt')
      have hi0 : (0 : Int) ≤ (k : Int) := by omega
      have hi1 : (k : Int) < (n : Int) := by omega
      have hfl : (bds (ps.take k)).length ≤ 1000000 := by have := bds_len (ps.take k); rw [List.length_take] at this; omega
      generalize ps[k] = x at *
      obtain ⟨⟨xa, xn, xc, xb, xm, xd⟩, xr, pa, pb⟩ := x
      simp only [Hd.x, Hd.y] at c0 c1 c2 c3 HEN
      obtain ⟨b0, b1, b2, b3⟩ := box4 wr (.slice xa xn xc) (.int .i64 pa) (.int .i64 pb) (.slice xb xm xd) 32
      have hE0 : Ext wr (wr.alloc (.cells #[.slice xa xn xc, .int .i64 pa, .int .i64 pb, .slice xb xm xd] 32)) := (Ext.refl wr).alloc _ _
      have HO := Lib.hid hO
      clear hO
      cases hb : okV pa pb with
      | true =>
        have HB := Lib.hid hb
        have HX := Lib.hid (show bds (ps.take (k + 1)) = bds (ps.take k) ++ [pa, pb] by rw [HEN.out, if_pos hb])
        clear hb HEN
        have HFL := Lib.hid hfl
        clear hfl
        generalize bds (ps.take k) = os at *
        go_wp2_with fail
        generalize wr.alloc (.cells #[.slice xa xn xc, .int .i64 pa, .int .i64 pb, .slice xb xm xd] 32) = w0 at *
        refine (vpp_yes pa pb _ HB.out).mono ?_; rintro e w1 ⟨rfl, hg⟩
        have hE1 := ext_of_grown hg
        have d0 := hE1.keeps b0
        have d1 := hE1.keeps b1
        have d2 := hE1.keeps b2
        have d3 := hE1.keeps b3
        have hz : wr.heap.size < w1.heap.size := World.block_lt_of_cell? _ _ d0
        have HE := Lib.hid (hE0.trans hE1)
        clear b0 b1 b2 b3 c0 c1 c2 c3 hg hE0 hE1
        go_wp2_with (at_builtin; refine appG tI rfl _ _ rfl w _ os rfl ?a1 _ [pa, pb] rfl ?a2 ?a3 ?_; (case a1 => exact HO.out.ext (HE.out.trans ((Ext.refl w1).alloc _ _))); (case a2 => exact rd_litG _ [pa, pb] #[.int .i64 pa, .int .i64 pb] 3 _ 2 rfl rfl (by simp) rfl); (case a3 => have := HFL.out; simp; omega); intro v5 w5 hO5 hg5)
        go_roundw
        case rel => exact ⟨k + 1, hlt', by go_num, by rw [HX.out]; exact hO5⟩
        case measure => simp [intOf]; omega
      | false =>
        have HB := Lib.hid hb
        have HX := Lib.hid (show bds (ps.take (k + 1)) = bds (ps.take k) by rw [HEN.out, if_neg (by rw [hb]; decide), List.append_nil])
        clear hb HEN hfl
        go_wp2_with fail
        refine (vpp_no pa pb _ HB.out).mono ?_; rintro e w1 ⟨rfl, hg⟩
        have HE := Lib.hid (hE0.trans (ext_of_grown hg))
        clear b0 b1 b2 b3 c0 c1 c2 c3 hg hE0
        go_wp2_with fail
        go_roundw
        case rel => exact ⟨k + 1, hlt', by go_num, by rw [HX.out]; exact HO.out.ext HE.out⟩
        case measure => simp [intOf]; omega
    · have hke : k = n := by omega
      have hall : ps.take k = ps := by rw [List.take_of_length_le]; rw [← HN.out, hke]; exact Nat.le_refl _
      rw [hall] at hO
      have HO := Lib.hid hO
      have HLE := Lib.hid (show (bds ps).length ≤ 100000000 by have := bds_len ps; have := HN.out; omega)
      clear hO hall
      go_wp2_with fail
      refine (sort_I _ w wr _ _ HO.out HLE.out).mono ?_; rintro e w1 ⟨rfl, hO1⟩
      have HO1 := Lib.hid hO1
      clear hO1
      go_wp2_with fail
      refine (cut_O _ w w1 _ _ HO1.out (by rw [List.length_mergeSort]; exact HLE.out)).mono ?_; rintro e w2 ⟨v2, rfl, hR⟩
      have HR := Lib.hid hR
      clear hR
      go_wp2_with fail
      go_ret
      exact ⟨_, _, rfl, HR.out, ⟨(sort_cut (bds ps)).1, fun e => ((sort_cut (bds ps)).2 e).trans (bds_mem ps e)⟩, Nat.le_trans (Nat.le_trans (Lib_compact_le _) (by rw [List.length_mergeSort]; exact Nat.le_refl _)) (bds_len ps)⟩
theorem bounds_prg (ps : List TP) (v : Value) (w : World) (h : RdG w v ps) (hl : ps.length ≤ 100000) : Calls Tryz.prog 19 #[v] w (BdP ps w) :=
  (bounds_prgO ps v w h hl).mono fun _ _ ⟨v', pts, a, b, c, _⟩ => ⟨v', pts, a, b.rd, c, b.2⟩
set_option maxHeartbeats 8000000 in
set_option maxRecDepth 100000 in
theorem bounds_ref (ps : List TP) (v : Value) (w : World) (h : RdG w v ps) (hl : ps.length ≤ 400) : Calls Tryz.prog 20 #[v] w (BdP ps w) := by
  obtain ⟨ad, cap, rfl, h1, h2⟩ := h.shape
  have H := Lib.hid h
  clear h
  unfold maxLen at h2
  obtain ⟨n, hn⟩ : ∃ n, n = ps.length := ⟨_, rfl⟩
  have HN := Lib.hid hn
  rw [← hn] at H h1 hl ⊢
  clear hn
  go_enter Tryz.func20, Tryz.ntmps20
  go_wp2_with fail
  go_loopw [3, 8] (BdQ w ps) (fun _ i _ => n - (intOf i).toNat)
  case atStart => exact ⟨0, [], Nat.zero_le _, rfl, OwnG.nil _ _ _ (Ext.refl _), Lib.hid List.Pairwise.nil, Lib.hid (fun e => by simp [bds]), Nat.zero_le _⟩
  case round =>
    obtain ⟨k, os, hk, rfl, hO, HAS, HME, hol⟩ := hrel
    have hkn : k ≤ n := by rw [HN.out]; exact hk
    by_cases hlt : k < n
    · have hlt' : k < ps.length := by rw [← HN.out]; exact hlt
      obtain ⟨g, o, rfl, c0', c1', c2', c3'⟩ := rd_T H.out k hlt'
      have c0 := hO.2.keeps c0'
      have c1 := hO.2.keeps c1'
      have c2 := hO.2.keeps c2'
      have c3 := hO.2.keeps c3'
      clear c0' c1' c2' c3'
      have HEN := Lib.hid (bds_next hlt')
      have hi0 : (0 : Int) ≤ (k : Int) := by omega
      have hi1 : (k : Int) < (n : Int) := by omega
      generalize ps[k] = x at *
      obtain ⟨⟨xa, xn, xc, xb, xm, xd⟩, xr, pa, pb⟩ := x
      simp only [Hd.x, Hd.y] at c0 c1 c2 c3 HEN
      obtain ⟨b0, b1, b2, b3⟩ := box4 wr (.slice xa xn xc) (.int .i64 pa) (.int .i64 pb) (.slice xb xm xd) 32
      have hE0 : Ext wr (wr.alloc (.cells #[.slice xa xn xc, .int .i64 pa, .int .i64 pb, .slice xb xm xd] 32)) := (Ext.refl wr).alloc _ _
      have HO := Lib.hid hO
      clear hO
      cases hb : okV pa pb with
      | true =>
        have HB := Lib.hid hb
        have HX := Lib.hid (show bds (ps.take (k + 1)) = bds (ps.take k) ++ [pa, pb] by rw [HEN.out, if_pos hb])
        clear hb HEN
        go_wp2_with fail
        generalize wr.alloc (.cells #[.slice xa xn xc, .int .i64 pa, .int .i64 pb, .slice xb xm xd] 32) = w0 at *
        refine (vp_yes pa pb _ HB.out).mono ?_; rintro e w1 ⟨rfl, hg⟩
        have hE1 := ext_of_grown hg
        have d0 := hE1.keeps b0
        have d1 := hE1.keeps b1
        have d2 := hE1.keeps b2
        have d3 := hE1.keeps b3
        have hz : wr.heap.size < w1.heap.size := World.block_lt_of_cell? _ _ d0
        have HE := Lib.hid (hE0.trans hE1)
        clear b0 b1 b2 b3 c0 c1 c2 c3 hg hE0 hE1
        go_wp2_with fail
        refine (ml_ref os [pa, pb] _ _ _ (HO.out.rd.ext (HE.out.trans ((Ext.refl w1).alloc _ _))) (rd_litG w1 [pa, pb] #[.int .i64 pa, .int .i64 pb] 3 _ 2 rfl rfl (by simp) rfl) (by omega) (by simp)).mono ?_; rintro e w5 ⟨v5, cs, rfl, hO5, ha5, hm5, hl5⟩
        have HO5 := Lib.hid (hO5.base (HO.out.2.trans (HE.out.trans ((Ext.refl w1).alloc #[.int .i64 pa, .int .i64 pb] 3))))
        have HA5 := Lib.hid (show cs.Pairwise (· < ·) from ha5)
        have HM5 := Lib.hid (show ∀ e, e ∈ cs ↔ e ∈ bds (ps.take (k + 1)) from fun e => by rw [hm5, HME.out, HX.out, List.mem_append])
        have HL5 := Lib.hid (show cs.length ≤ 2 * (k + 1) by simp at hl5; omega)
        clear hO5 ha5 hm5 hl5 d0 d1 d2 d3
        go_wp2_with fail
        go_roundw
        case rel => exact ⟨k + 1, cs, hlt', by go_num, HO5.out, HA5, HM5, HL5.out⟩
        case measure => simp [intOf]; omega
      | false =>
        have HB := Lib.hid hb
        have HX := Lib.hid (show bds (ps.take (k + 1)) = bds (ps.take k) by rw [HEN.out, if_neg (by rw [hb]; decide), List.append_nil])
        clear hb HEN
        go_wp2_with fail
        refine (vp_no pa pb _ HB.out).mono ?_; rintro e w1 ⟨rfl, hg⟩
        have HE := Lib.hid (hE0.trans (ext_of_grown hg))
        clear b0 b1 b2 b3 c0 c1 c2 c3 hg hE0
        go_wp2_with fail
        go_roundw
        case rel => exact ⟨k + 1, os, hlt', by go_num, HO.out.ext HE.out, HAS, Lib.hid (fun e => by rw [HX.out]; exact HME.out e), by omega⟩
        case measure => simp [intOf]; omega
    · have hke : k = n := by omega
      have hall : ps.take k = ps := by rw [List.take_of_length_le]; rw [← HN.out, hke]; exact Nat.le_refl _
      have HM := Lib.hid (show ∀ e, e ∈ os ↔ e ∈ bds ps from fun e => by have := HME.out e; rwa [hall] at this)
      have HO := Lib.hid hO
      clear hO hall
      go_wp2_with fail
      go_ret
      exact ⟨_, os, rfl, HO.out.rd, ⟨HAS.out, fun e => (HM.out e).trans (bds_mem ps e)⟩, HO.out.2⟩
end Go.Proofs.YtcankdikbnllkaaGreat
/- Contracts of Valid, of the program and of the reference. -/
namespace Go.Proofs.YtcankdikbnllkaaGreat
open Go.ChangeShapes Go.WideShapes Go.ChangeAt Go.RowKit

theorem kinds (k : Int) : k = 0 ∨ k = 1 ∨ k = 2 ∨ k = 3 ∨ (k ≠ 0 ∧ k ≠ 1 ∧ k ≠ 2 ∧ k ≠ 3) := by omega
set_option maxHeartbeats 1000000 in
theorem vld_val (v : V) (w : World) : Calls Tryz.prog 34 #[vv v] w fun e w' => e = .returned (.bool (vldB v)) ∧ Grown w w' := by
  obtain ⟨k, n, s⟩ := v
  rcases kinds k with rfl | rfl | rfl | rfl | ⟨h0, h1, h2, h3⟩
  all_goals
    go_enter Tryz.func34, Tryz.ntmps34
    go_wp2
    all_goals
      go_ret
      exact ⟨ret_bool (by first | (simp [vldB, *]; done) | (simp_all [vldB]; done) | (simp [vldB, *]; omega) | (rw [Bool.eq_iff_iff]; simp [vldB, *] <;> omega)), (Grown.refl _).alloc _ _⟩
set_option maxHeartbeats 1000000 in
theorem vld_ref (v : V) (w : World) : Calls Tryz.prog 37 #[vv v] w fun e w' => e = .returned (.bool (vldB v)) ∧ Grown w w' := by
  obtain ⟨k, n, s⟩ := v
  rcases kinds k with rfl | rfl | rfl | rfl | ⟨h0, h1, h2, h3⟩
  all_goals
    go_enter Tryz.func37, Tryz.ntmps37
    go_wp2
    all_goals
      go_ret
      exact ⟨ret_bool (by first | (simp [vldB, *]; done) | (simp_all [vldB]; done) | (simp [vldB, *]; omega) | (rw [Bool.eq_iff_iff]; simp [vldB, *] <;> omega)), (Grown.refl _).alloc _ _⟩
end Go.Proofs.YtcankdikbnllkaaGreat
/- Valid tuples: the program's isStrictlyAscending and Valid, the reference's Valid. -/
namespace Go.Proofs.YtcankdikbnllkaaGreat
open Go.ChangeShapes Go.WideShapes Go.ChangeAt Go.RowKit

def ascB (l : List Int) : Bool := decide (l.Pairwise (· < ·))
theorem asc_next {l : List Int} {k : Nat} (hk : k + 1 < l.length) (h : (l.take (k + 1)).Pairwise (· < ·)) (hlt : l[k] < l[k + 1]) : (l.take (k + 2)).Pairwise (· < ·) := by
  rw [List.take_succ_eq_append_getElem hk]
  refine List.pairwise_append.2 ⟨h, by simp, fun x hx y hy => ?_⟩
  rw [List.mem_singleton.1 hy]
  obtain ⟨i, hi, rfl⟩ := List.mem_iff_getElem.1 hx
  have hi' : i < k + 1 := by rw [List.length_take] at hi; omega
  rw [List.getElem_take]
  by_cases e : i = k
  · subst e; exact hlt
  · have := List.pairwise_iff_getElem.1 h i k (by rw [List.length_take]; omega) (by rw [List.length_take]; omega) (by omega)
    rw [List.getElem_take, List.getElem_take] at this
    omega
theorem asc_no {l : List Int} {k : Nat} (hk : k + 1 < l.length) (hge : l[k + 1] ≤ l[k]) : ascB l = false := by
  unfold ascB
  simp only [decide_eq_false_iff_not]
  intro h
  have := List.pairwise_iff_getElem.1 h k (k + 1) (by omega) hk (by omega)
  omega
theorem asc_yes {l : List Int} {k : Nat} (hk : l.length ≤ k + 1) (h : (l.take (k + 1)).Pairwise (· < ·)) : ascB l = true := by
  rw [List.take_of_length_le hk] at h
  unfold ascB; simpa using h
theorem asc_one (l : List Int) : (l.take (0 + 1)).Pairwise (· < ·) := by
  cases l with
  | nil => simp
  | cons x l => simp
/-- i = j + 1 numbers looked at -/
def AsR (l : List Int) (w : World) (i : Value) (wr : World) : Prop := ∃ j : Nat, j ≤ l.length ∧ i = .int .i64 ((j + 1 : Nat) : Int) ∧ Hid ((l.take (j + 1)).Pairwise (· < ·)) ∧ Ext w wr
set_option maxHeartbeats 2000000 in
theorem asc_prg (l : List Int) (v : Value) (w : World) (h : RdG w v l) : Calls Tryz.prog 36 #[v] w fun e w' => e = .returned (.bool (ascB l)) ∧ Ext w w' := by
  obtain ⟨ad, cap, rfl, h1, h2⟩ := h.shape
  have H := Lib.hid h
  clear h
  unfold maxLen at h2
  obtain ⟨n, hn⟩ : ∃ n, n = l.length := ⟨_, rfl⟩
  have HN := Lib.hid hn
  rw [← hn] at H h1 ⊢
  clear hn
  go_enter Tryz.func36, Tryz.ntmps36
  go_wp2_with fail
  go_loopw [3] (AsR l w) (fun i _ => n - (intOf i).toNat)
  case atStart => exact ⟨0, Nat.zero_le _, rfl, Lib.hid (asc_one l), Ext.refl _⟩
  case round =>
    obtain ⟨j, hj, rfl, HT, hE⟩ := hrel
    have hjn : j ≤ n := by rw [HN.out]; exact hj
    by_cases hlt : j + 1 < n
    · have hlt' : j + 1 < l.length := by rw [← HN.out]; exact hlt
      obtain ⟨g, o, rfl, c0'⟩ := rd_I H.out (j + 1) hlt'
      obtain ⟨g', o', e', d0'⟩ := rd_I H.out j (by omega)
      simp only [Option.some.injEq, Addr.mk.injEq, and_true] at e'
      obtain ⟨rfl, rfl⟩ := e'
      have c0 := hE.keeps c0'
      have d0 := hE.keeps d0'
      clear c0' d0'
      have HNx := Lib.hid (asc_next hlt' HT.out)
      have HNo := Lib.hid (asc_no hlt')
      generalize l[j + 1] = y at *
      generalize l[j] = x at *
      have hj0 : (0 : Int) ≤ (j : Int) := by omega
      have hj1 : (j : Int) < (n : Int) := by omega
      have hj2 : ((j : Int) + 1) < (n : Int) := by omega
      by_cases hxy : x < y
      · have HX := Lib.hid (HNx.out hxy)
        clear HNx HNo
        go_wp2_with fail
        go_quiet (fail)
        go_wp2_with fail
        go_roundw
        case rel => exact ⟨j + 1, by omega, by go_num, HX, hE⟩
        case measure => simp [intOf]; omega
      · have HX := Lib.hid (HNo.out (by omega))
        have hyx : y ≤ x := by omega
        clear HNx HNo hxy
        go_wp2_with fail
        go_quiet (fail)
        go_wp2_with fail
        try simp only [Exit.inBlock, Exit.then]
        go_ret
        exact ⟨ret_bool HX.out.symm, hE⟩
    · have hge : (n : Int) ≤ (j : Int) + 1 := by omega
      have HX := Lib.hid (asc_yes (by rw [← HN.out]; omega) HT.out)
      go_wp2_with fail
      go_ret
      exact ⟨ret_bool HX.out.symm, hE⟩
end Go.Proofs.YtcankdikbnllkaaGreat
