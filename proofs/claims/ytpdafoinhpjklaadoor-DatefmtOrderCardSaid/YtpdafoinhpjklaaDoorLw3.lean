/- The laws DatefmtRoundTrip and DatefmtUnique. -/
import Derived.Test.YtpdafoinhpjklaaDoorLw2
namespace Go.Proofs.YtpdafoinhpjklaaDoor
open Go.ChangeShapes Go.WideShapes Go.ChangeAt Go.RowKit

theorem fper_len (a b : Int) : (Cal.fper a b).length ≤ 24 := by
  have la := Cal.fday_len a
  have lb := Cal.fday_len b
  unfold Cal.fper
  split
  · simp; omega
  · simp
theorem rt_per (a b : Int) (w : World) (h0 : 0 ≤ a) (h1 : a < b) (h2 : b ≤ 1000000) :
    Calls Tryd.prog 16 #[sv (Cal.fper a b)] w fun e w' => e = .returned (.tuple #[pv a b, .int .i64 0]) ∧ Ext w w' := by
  have hl : (Cal.fper a b).length ≤ maxLen := Nat.le_trans (fper_len a b) (by decide)
  have h := pper_prog (Cal.fper a b) (Cal.fday a) (Cal.fday b) w hl (splits_per (Cal.splits_fper h0 h1 h2))
  obtain ⟨p1, p2, p3⟩ := Cal.pp_fday h0 h1 h2
  rwa [p1, p2, p3] at h
theorem rt_day (n : Int) (w : World) (h0 : 0 ≤ n) (h1 : n ≤ 1000000) :
    Calls Tryd.prog 14 #[sv (Cal.fday n)] w fun e w' => e = .returned (.tuple #[.int .i64 n, .int .i64 0]) ∧ Ext w w' := by
  have h := pday_prog (Cal.fday n) w
  obtain ⟨p1, p2⟩ := Cal.pd_fday h0 h1
  rwa [p1, p2] at h
theorem fper_none (a b : Int) (w : World) (hT : PT w) (h : okD a b = false) :
    Calls Tryd.prog 12 #[pv a b] w fun e w' => e = .returned (sv []) ∧ Ext w w' := by
  have := fper_prog a b w hT
  rwa [Cal.fper_no (by unfold okD at h; simpa using h)] at this

set_option maxHeartbeats 2000000 in
theorem law_DatefmtRoundTrip (a b : Int) (w : World) (hT : PT w) : Calls Tryd.prog 6 #[pv a b] w fun e w' => e = .returned (.bool true) ∧ Ext w w' := by
  have hE0 : Ext w (w.alloc (.cells #[.int .i64 a, .int .i64 b] 23)) := (Ext.refl _).alloc _ _
  have HT := Lib.hid (hT.ext hE0)
  have K0 := Lib.hid (al0 w (.int .i64 a) (.int .i64 b) 23)
  have K1 := Lib.hid (al1 w (.int .i64 a) (.int .i64 b) 23)
  clear hT
  cases hd : okD a b
  · have HD := Lib.hid hd
    clear hd
    go_enter Tryd.func6, Tryd.ntmps6
    go_wp2_with fail
    refine (vd_no _ _ _ HD.out).mono ?_; rintro e w1 ⟨rfl, hg⟩
    have e1 := ext_of_grown hg
    go_wp2_with fail
    refine (awake_law _ (HT.out.ext e1)).mono ?_; rintro e w2 ⟨rfl, e2⟩
    have k0 := (e1.trans e2).keeps K0.out
    have k1 := (e1.trans e2).keeps K1.out
    have z : w.heap.size < w2.heap.size := by have := (e1.trans e2).2.2; simp at this; omega
    go_wp2_with fail
    refine (fper_none _ _ _ (HT.out.ext (e1.trans e2)) HD.out).mono ?_; rintro e w3 ⟨rfl, e3⟩
    go_wp2_with fail
    go_ret
    exact ⟨rfl, hE0.trans ((e1.trans e2).trans e3)⟩
  · have HD := Lib.hid hd
    obtain ⟨h0, h1, h2⟩ : 0 ≤ a ∧ a < b ∧ b ≤ 1000000 := by unfold okD at hd; simpa using hd
    clear hd
    go_enter Tryd.func6, Tryd.ntmps6
    go_wp2_with fail
    refine (vd_yes _ _ _ HD.out).mono ?_; rintro e w1 ⟨rfl, hg⟩
    have e1 := ext_of_grown hg
    have k0 := e1.keeps K0.out
    have k1 := e1.keeps K1.out
    have z : w.heap.size < w1.heap.size := by have := e1.2.2; simp at this; omega
    go_wp2_with fail
    clear k0 k1 z
    refine (fper_prog _ _ _ (HT.out.ext e1)).mono ?_; rintro e w2 ⟨rfl, e2⟩
    go_wp2_with fail
    refine (rt_per a b _ h0 h1 h2).mono ?_; rintro e w3 ⟨rfl, e3⟩
    have E3 := (e1.trans e2).trans e3
    have k0 := (E3.alloc #[.int .i64 a, .int .i64 b] 23).keeps K0.out
    have k1 := (E3.alloc #[.int .i64 a, .int .i64 b] 23).keeps K1.out
    have z : w.heap.size < w3.heap.size := by have := E3.2.2; simp at this; omega
    go_wp2_with fail
    clear k0 k1 z
    refine (fday_prog _ _ (HT.out.ext (E3.alloc _ _))).mono ?_; rintro e w4 ⟨rfl, e4⟩
    go_wp2_with fail
    refine (rt_day a _ (by omega) (by omega)).mono ?_; rintro e w5 ⟨rfl, e5⟩
    have F5 := e4.trans e5
    have E5 := (E3.alloc _ _).trans F5
    have k0 := E5.keeps K0.out
    have k1 := E5.keeps K1.out
    have z : w.heap.size < w5.heap.size := by have := E5.2.2; simp at this; omega
    go_wp2_with fail
    clear k0 k1 z
    refine (fday_prog _ _ (HT.out.ext E5)).mono ?_; rintro e w6 ⟨rfl, e6⟩
    go_wp2_with fail
    refine (rt_day b _ (by omega) (by omega)).mono ?_; rintro e w7 ⟨rfl, e7⟩
    have F7 := (F5.trans e6).trans e7
    have E7 := (E5.trans e6).trans e7
    go_wp2_with fail
    refine (awake_law _ (HT.out.ext E7)).mono ?_; rintro e w8 ⟨rfl, e8⟩
    have F8 := F7.trans e8
    have E8 := E7.trans e8
    have k0 := E8.keeps K0.out
    have k1 := E8.keeps K1.out
    have k2 := F8.keeps (al0 _ _ _ _)
    have k3 := F8.keeps (al1 _ _ _ _)
    have z : w.heap.size < w8.heap.size := by have := E8.2.2; simp at this; omega
    have z3 : w3.heap.size < w8.heap.size := by have := F8.2.2; simp at this; omega
    go_wp2_with fail
    go_ret
    exact ⟨rfl, hE0.trans E8⟩

/-- what the law DatefmtUnique asks of a text -/
theorem uniq_facts (l : List UInt8) (hl : l.length ≤ maxLen) : ∃ a b c : Int, (∀ w, Calls Tryd.prog 16 #[sv l] w fun e w' => e = .returned (.tuple #[pv a b, .int .i64 c]) ∧ Ext w w') ∧
    (c = 0 → Cal.fper a b = l) ∧ (Cal.pdE l = 0 → Cal.fday (Cal.pdV l) = l) ∧ (Cal.pdE l = 0 → c ≠ 0) := by
  rcases kind_of l with h | ⟨f, g, h⟩
  · exact ⟨0, 0, 5, fun w => pper_prog_bad l w hl h, fun e => by omega, fun e => (Cal.fday_pd e).1, fun _ => by omega⟩
  · have hs := per_splits h
    exact ⟨_, _, _, fun w => pper_prog l f g w hl h, fun e => Cal.fper_pp hs e, fun e => (Cal.fday_pd e).1, fun e => by have := Cal.bracket_err (Cal.splits_bracket hs); omega⟩
theorem fday_eq (n : Int) (l : List UInt8) (w : World) (hT : PT w) (h : Cal.fday n = l) : Calls Tryd.prog 10 #[.int .i64 n] w fun e w' => e = .returned (sv l) ∧ Ext w w' := by
  rw [← h]; exact fday_prog n w hT
theorem fper_eq (a b : Int) (l : List UInt8) (w : World) (hT : PT w) (h : Cal.fper a b = l) : Calls Tryd.prog 12 #[pv a b] w fun e w' => e = .returned (sv l) ∧ Ext w w' := by
  rw [← h]; exact fper_prog a b w hT

set_option maxHeartbeats 2000000 in
theorem law_DatefmtUnique (s : ByteArray) (w : World) (hT : PT w) (hs : s.size ≤ maxLen) : Calls Tryd.prog 7 #[.string s] w fun e w' => e = .returned (.bool true) ∧ Ext w w' := by
  rw [sv_of]
  have hl : s.data.toList.length ≤ maxLen := hs
  generalize s.data.toList = l at hl
  obtain ⟨a, b, c, hp, g1, g2, g3⟩ := uniq_facts l hl
  have HP := Lib.hid hp
  have G1 := Lib.hid g1
  have G2 := Lib.hid g2
  have HT := Lib.hid hT
  clear hT hp
  by_cases hc : c = 0
  · have hd : Cal.pdE l ≠ 0 := fun e => g3 e hc
    have q1 : (Cal.pdE l != 0) = true := bne_iff_ne.2 hd
    have HC := Lib.hid hc
    have q2 : (c != 0) = false := by rw [hc]; rfl
    clear g1 g2 g3 hd hc
    go_enter Tryd.func7, Tryd.ntmps7
    go_wp2_with fail
    refine (pday_prog l _).mono ?_; rintro e w1 ⟨rfl, e1⟩
    go_wp2_with fail
    refine (HP.out _).mono ?_; rintro e w2 ⟨rfl, e2⟩
    have E2 := e1.trans e2
    go_wp2_with fail
    refine (awake_law _ (HT.out.ext (E2.alloc _ _))).mono ?_; rintro e w3 ⟨rfl, e3⟩
    have k0 := e3.keeps (al0 _ _ _ _)
    have k1 := e3.keeps (al1 _ _ _ _)
    have z : w2.heap.size < w3.heap.size := by have := e3.2.2; simp at this; omega
    have E3 := (E2.alloc _ _).trans e3
    go_wp2_with fail
    refine (fper_eq a b l _ (HT.out.ext E3) (G1.out HC.out)).mono ?_; rintro e w4 ⟨rfl, e4⟩
    go_wp2_with fail
    go_ret
    exact ⟨rfl, E3.trans e4⟩
  · have q2 : (c != 0) = true := bne_iff_ne.2 hc
    by_cases hd : Cal.pdE l = 0
    · have q1 : (Cal.pdE l != 0) = false := by rw [hd]; rfl
      have HD := Lib.hid hd
      clear g1 g2 g3 hd hc
      go_enter Tryd.func7, Tryd.ntmps7
      go_wp2_with fail
      refine (pday_prog l _).mono ?_; rintro e w1 ⟨rfl, e1⟩
      go_wp2_with fail
      refine (HP.out _).mono ?_; rintro e w2 ⟨rfl, e2⟩
      have E2 := e1.trans e2
      go_wp2_with fail
      refine (awake_law _ (HT.out.ext (E2.alloc _ _))).mono ?_; rintro e w3 ⟨rfl, e3⟩
      have E3 := (E2.alloc _ _).trans e3
      go_wp2_with fail
      refine (fday_eq _ l _ (HT.out.ext E3) (G2.out HD.out)).mono ?_; rintro e w4 ⟨rfl, e4⟩
      go_wp2_with fail
      go_ret
      exact ⟨rfl, E3.trans e4⟩
    · have q1 : (Cal.pdE l != 0) = true := bne_iff_ne.2 hd
      clear g1 g2 g3 hd hc
      go_enter Tryd.func7, Tryd.ntmps7
      go_wp2_with fail
      refine (pday_prog l _).mono ?_; rintro e w1 ⟨rfl, e1⟩
      go_wp2_with fail
      refine (HP.out _).mono ?_; rintro e w2 ⟨rfl, e2⟩
      have E2 := e1.trans e2
      go_wp2_with fail
      refine (awake_law _ (HT.out.ext (E2.alloc _ _))).mono ?_; rintro e w3 ⟨rfl, e3⟩
      go_wp2_with fail
      go_ret
      exact ⟨rfl, (E2.alloc _ _).trans e3⟩
end Go.Proofs.YtpdafoinhpjklaaDoor
