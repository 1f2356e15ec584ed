/- awake: what all laws on queries begin with. -/
import Derived.Lib.SmallJoins
import Derived.Deep.Slices
import Derived.LaidMore
import Derived.ChangeMaps5
import Derived.Test.YtfojeajmonnifaaGreatDoorZz04
import Derived.Test.YtfojeajmonnifaaGreatDoorZz05
import Derived.Test.YtfojeajmonnifaaGreatDoorZz42
namespace Go.Proofs.YtfojeajmonnifaaGreatDoor
open Go.ChangeShapes Go.WideShapes Go.ChangeAt Go.RowKit

theorem one_of {ps : List P} {r : R} (h : rows ps = [r]) : ∃ hd, ps = [⟨hd, r⟩] := by
  cases ps with
  | nil => cases h
  | cons x l => cases l with
    | nil => simp [rows] at h; exact ⟨x.h, by rw [← h]⟩
    | cons y l => simp [rows] at h
theorem sm_good {T : Nat} (hT : 2 ≤ T) {v : V} (h : SmV v) : GoodV T v := ⟨okN_small (by have := h.1; omega) (by have := h.1; omega), okN_small (by have := h.2.1; omega) (by have := h.2.1; omega), by have := h.2.2; omega⟩
/-- one row is handed back, and no error -/
def OneP (r : R) (w : World) (e : Ending) (w' : World) : Prop := ∃ ad c hd, e = .returned (.tuple #[.slice ad 1 c, .int .i64 0]) ∧ RdG w' (.slice ad 1 c) [(⟨hd, r⟩ : P)] ∧ RdRow w' ⟨hd, r⟩ ∧ Ext w w'
theorem ev_one {w w' : World} {c : List R × Int} {e : Ending} {r : R} (h : EvP w c e w') (hc : c = ([r], 0)) : OneP r w e w' := by
  subst hc
  obtain ⟨v, qs, rfl, h1, h2, h3, h4⟩ := h
  obtain ⟨hd, rfl⟩ := one_of h3
  obtain ⟨ad, c, rfl, _, _⟩ := h1.shape
  exact ⟨ad, c, hd, rfl, h1, h2 _ (by simp), h4⟩
theorem rdV3 {w : World} {ad : Option Addr} {n cap : Nat} {l : List V} (h : RdG w (.slice ad n cap) l) (i : Nat) (hi : i < l.length) : ∃ g o, ad = some ⟨g, o, none⟩ ∧ w.cell? ⟨g, o + i * 3, none⟩ = some (.int .i64 l[i].k) ∧ w.cell? ⟨g, o + i * 3 + 1, none⟩ = some (.int .i64 l[i].n) ∧ w.cell? ⟨g, o + i * 3 + 2, none⟩ = some (sv l[i].s) := by
  obtain ⟨g, o, e, c⟩ := h.at i hi
  exact ⟨g, o, e, c 0 _ rfl, c 1 _ rfl, c 2 _ rfl⟩
theorem dbs_bd {T : Nat} {Z : List Int} {a b : List R} (ha : RowsB T Z 6 a) (hb : RowsB T Z 6 b) : ∀ tb ∈ dbs a b, RowsB T Z 6 tb.l := fun tb ht => by
  simp only [dbs, List.mem_cons, List.not_mem_nil, or_false] at ht
  rcases ht with rfl | rfl
  · exact ha
  · exact hb
theorem rdR_of {w : World} {v : Value} {ps : List P} (h : RdG w v ps) (ha : RdAll w ps) : RdR UU w v (rows ps) := ⟨ps, h, in_UU _, fun p hp => ⟨ha p hp, in_UU _, in_UU _⟩, rfl⟩
set_option maxHeartbeats 8000000 in
set_option maxRecDepth 100000 in
theorem awake_law (w : World) (hG : PT w) : Calls Tryz.prog 14 #[] w fun e w' => e = .returned (.bool true) ∧ Ext w w' := by
  have HDB := Lib.hid (fun la lb va vb w ha hb => rowdb_prg la lb va vb w ha hb)
  have HVL := Lib.hid (fun w => vals_law 0 0 (by omega) (by omega) (by omega) (by omega) w)
  have HEV := Lib.hid (fun (es : List X) (ns : List Nd) (db : List Tb) (vn ve vd : Value) (w' : World) (hE : Ext w w') (hn : RdN w' vn ns) (hl : RdG w' ve es) (hdb : RdB9 UU w' vd db) (hx : GoodX 10 es) (hbd : ∀ tb ∈ db, RowsB 10 [7] 6 tb.l) (hs : ∀ n ∈ ns, n.ex.length ≤ 1000000 ∧ n.ag.length ≤ 1000000) (hdl : db.length ≤ 1000000) =>
    evQ_prg UU 10 [7] es ns db vn ve vd w' hn hl hdb (up_UU _) (hG.ext hE) hx (by omega) (by simp) hbd hs hdl)
  have HIV := Lib.hid (fun w => int_val 0 w)
  obtain ⟨X1, hX1⟩ : ∃ X1, X1 = ((w.alloc (.cells #[.int .i64 1, .int .i64 0] 78)).alloc (.cells #[.int .i64 1, .int .i64 0, .int .i64 0, .int .i64 0, sv [114], .slice none 0 0, .slice none 0 0, .int .i64 10, .int .i64 0, .int .i64 0, .int .i64 0, sv [], .slice none 0 0, .slice (some ⟨w.heap.size, 0, none⟩) 1 1] 61)).alloc (.cells #[.slice (some ⟨w.heap.size + 1, 0, none⟩) 2 2, .slice none 0 0] 25) := ⟨_, rfl⟩
  have EX1 := Lib.hid (show Ext w X1 by rw [hX1]; exact (((Ext.refl w).alloc _ _).alloc _ _).alloc _ _)
  have HN1 := Lib.hid (show RdN X1 (.slice (some ⟨w.heap.size + 1, 0, none⟩) 2 2) aq1 by
    rw [hX1]
    refine ⟨[⟨⟨none, 0, 0, none, 0, 0⟩, ⟨1, 0, 0, 0, [114], [], []⟩⟩, ⟨⟨none, 0, 0, some ⟨w.heap.size, 0, none⟩, 1, 1⟩, ⟨10, 0, 0, 0, [], [], [(1, 0)]⟩⟩], ?_, fun q hq => ?_, rfl⟩
    · exact (rd_litG (w.alloc (.cells #[.int .i64 1, .int .i64 0] 78)) ([⟨⟨none, 0, 0, none, 0, 0⟩, ⟨1, 0, 0, 0, [114], [], []⟩⟩, ⟨⟨none, 0, 0, some ⟨w.heap.size, 0, none⟩, 1, 1⟩, ⟨10, 0, 0, 0, [], [], [(1, 0)]⟩⟩] : List NdP) #[.int .i64 1, .int .i64 0, .int .i64 0, .int .i64 0, sv [114], .slice none 0 0, .slice none 0 0, .int .i64 10, .int .i64 0, .int .i64 0, .int .i64 0, sv [], .slice none 0 0, .slice (some ⟨w.heap.size, 0, none⟩) 1 1] 61 _ 2 (by simp) rfl (by simp) rfl).ext ((Ext.refl _).alloc _ _)
    · simp only [List.mem_cons, List.not_mem_nil, or_false] at hq
      rcases hq with rfl | rfl
      · exact ⟨rdG_nil _, rdG_nil _⟩
      · exact ⟨rdG_nil _, (rd_litG w ([(1, 0)] : List (Int × Int)) #[.int .i64 1, .int .i64 0] 78 _ 1 rfl rfl (by simp) rfl).ext (((Ext.refl _).alloc _ _).alloc _ _)⟩)
  have q0 : X1.cell? ⟨w.heap.size + 1 + 1, 0, none⟩ = some (.slice (some ⟨w.heap.size + 1, 0, none⟩) 2 2) := by
    rw [hX1]
    have := al0 ((w.alloc (.cells #[.int .i64 1, .int .i64 0] 78)).alloc (.cells #[.int .i64 1, .int .i64 0, .int .i64 0, .int .i64 0, sv [114], .slice none 0 0, .slice none 0 0, .int .i64 10, .int .i64 0, .int .i64 0, .int .i64 0, sv [], .slice none 0 0, .slice (some ⟨w.heap.size, 0, none⟩) 1 1] 61)) (.slice (some ⟨w.heap.size + 1, 0, none⟩) 2 2) (.slice none 0 0) 25
    rwa [alsz, alsz] at this
  have q1 : X1.cell? ⟨w.heap.size + 1 + 1, 1, none⟩ = some (.slice none 0 0) := by
    rw [hX1]
    have := al1 ((w.alloc (.cells #[.int .i64 1, .int .i64 0] 78)).alloc (.cells #[.int .i64 1, .int .i64 0, .int .i64 0, .int .i64 0, sv [114], .slice none 0 0, .slice none 0 0, .int .i64 10, .int .i64 0, .int .i64 0, .int .i64 0, sv [], .slice none 0 0, .slice (some ⟨w.heap.size, 0, none⟩) 1 1] 61)) (.slice (some ⟨w.heap.size + 1, 0, none⟩) 2 2) (.slice none 0 0) 25
    rwa [alsz, alsz] at this
  have Q0 := Lib.hid q0
  have Q1 := Lib.hid q1
  have HQ1 := Lib.hid (fun (w' : World) (vd : Value) (hE : Ext X1 w') (hd : RdB9 UU w' vd (dbs [] [])) => (HEV.out [] aq1 (dbs [] []) _ (.slice none 0 0) vd w' (EX1.out.trans hE) (HN1.out.ext hE) (rdG_nil _) hd (fun x hx => by cases hx) (dbs_bd (fun r hr => by cases hr) (fun r hr => by cases hr)) (fun n hn => by simp only [aq1, List.mem_cons, List.not_mem_nil, or_false] at hn; rcases hn with rfl | rfl <;> simp) (by simp [dbs])).mono (R' := OneP ⟨[⟨1, 0, []⟩], []⟩ w') fun _ _ h => ev_one h aw_e1)
  have HX1 := Lib.hid hX1
  clear hX1 q0 q1 hG
  go_enter Tryz.func14, Tryz.ntmps14
  go_wp2_with fail
  rw [← HX1.out]
  go_region_held3 (fun w' => w'.cell? ⟨w.heap.size + 1 + 1, 0, none⟩ = some (.slice (some ⟨w.heap.size + 1, 0, none⟩) 2 2) ∧ w'.cell? ⟨w.heap.size + 1 + 1, 1, none⟩ = some (.slice none 0 0)) (first | exact ⟨Q0.out, Q1.out⟩ | exact ⟨f0, f1⟩ | exact ⟨g0, g1⟩ | go_keep)
    (first
      | (go_at_call 23; refine (HDB.out [] [] _ _ _ (rdR_nil UU _) (rdR_nil UU _)).mono ?_; rintro e w2 ⟨vd, rfl, hd2, hE2'⟩; have hE2 : Ext X1 w2 := hE2'; obtain ⟨da, dc, rfl, _, _⟩ := hd2.shape; have f0 := hE2.keeps Q0.out; have f1 := hE2.keeps Q1.out; have HD2 := Lib.hid hd2; have HE2 := Lib.hid hE2; clear hE2' hd2 hE2)
      | (go_at_call 19; refine (HQ1.out _ _ ?e1 ?e2).mono ?_; (case e1 => exact HE2.out); (case e2 => exact HD2.out); rintro e w3 ⟨ra, rc, rh, rfl, r3, r4, hE3'⟩; have hE3 := HE2.out.trans hE3'; have g0 := hE3.keeps Q0.out; have g1 := hE3.keeps Q1.out; have HR3 := Lib.hid r3; have HR4 := Lib.hid r4; have HE3 := Lib.hid (EX1.out.trans hE3); clear r3 r4 hE3 hE3'))
  obtain ⟨X2, hX2⟩ : ∃ X2, X2 = ((w3.alloc (.cells #[.int .i64 1, .int .i64 0, .int .i64 0, .int .i64 0, sv [114], .slice none 0 0, .slice none 0 0, .int .i64 1, .int .i64 0, .int .i64 0, .int .i64 0, sv [115], .slice none 0 0, .slice none 0 0, .int .i64 5, .int .i64 0, .int .i64 1, .int .i64 0, sv [], .slice none 0 0, .slice none 0 0] 61)).alloc (.cells #[.int .i64 1, .int .i64 0, .int .i64 0, .int .i64 0, .int .i64 3, .int .i64 1, sv []] 80)).alloc (.cells #[.slice (some ⟨w3.heap.size, 0, none⟩) 3 3, .slice (some ⟨w3.heap.size + 1, 0, none⟩) 1 1] 25) := ⟨_, rfl⟩
  have EX2 := Lib.hid (show Ext w3 X2 by rw [hX2]; exact (((Ext.refl w3).alloc _ _).alloc _ _).alloc _ _)
  have HN2 := Lib.hid (show RdN X2 (.slice (some ⟨w3.heap.size, 0, none⟩) 3 3) aq2 by
    rw [hX2]
    refine ⟨[⟨⟨none, 0, 0, none, 0, 0⟩, ⟨1, 0, 0, 0, [114], [], []⟩⟩, ⟨⟨none, 0, 0, none, 0, 0⟩, ⟨1, 0, 0, 0, [115], [], []⟩⟩, ⟨⟨none, 0, 0, none, 0, 0⟩, ⟨5, 0, 1, 0, [], [], []⟩⟩], ?_, fun q hq => ?_, rfl⟩
    · exact (rd_litG w3 ([⟨⟨none, 0, 0, none, 0, 0⟩, ⟨1, 0, 0, 0, [114], [], []⟩⟩, ⟨⟨none, 0, 0, none, 0, 0⟩, ⟨1, 0, 0, 0, [115], [], []⟩⟩, ⟨⟨none, 0, 0, none, 0, 0⟩, ⟨5, 0, 1, 0, [], [], []⟩⟩] : List NdP) #[.int .i64 1, .int .i64 0, .int .i64 0, .int .i64 0, sv [114], .slice none 0 0, .slice none 0 0, .int .i64 1, .int .i64 0, .int .i64 0, .int .i64 0, sv [115], .slice none 0 0, .slice none 0 0, .int .i64 5, .int .i64 0, .int .i64 1, .int .i64 0, sv [], .slice none 0 0, .slice none 0 0] 61 _ 3 rfl rfl (by simp) rfl).ext (((Ext.refl _).alloc _ _).alloc _ _)
    · simp only [List.mem_cons, List.not_mem_nil, or_false] at hq
      rcases hq with rfl | rfl | rfl <;> exact ⟨rdG_nil _, rdG_nil _⟩)
  have HL2 := Lib.hid (show RdG X2 (.slice (some ⟨w3.heap.size + 1, 0, none⟩) 1 1) ax2 by
    rw [hX2]
    exact (rd_litG (w3.alloc (.cells #[.int .i64 1, .int .i64 0, .int .i64 0, .int .i64 0, sv [114], .slice none 0 0, .slice none 0 0, .int .i64 1, .int .i64 0, .int .i64 0, .int .i64 0, sv [115], .slice none 0 0, .slice none 0 0, .int .i64 5, .int .i64 0, .int .i64 1, .int .i64 0, sv [], .slice none 0 0, .slice none 0 0] 61)) ax2 #[.int .i64 1, .int .i64 0, .int .i64 0, .int .i64 0, .int .i64 3, .int .i64 1, sv []] 80 _ 1 (by simp) rfl (by simp [ax2]) rfl).ext ((Ext.refl _).alloc _ _))
  have p0 : X2.cell? ⟨w3.heap.size + 1 + 1, 0, none⟩ = some (.slice (some ⟨w3.heap.size, 0, none⟩) 3 3) := by
    rw [hX2]
    have := al0 ((w3.alloc (.cells #[.int .i64 1, .int .i64 0, .int .i64 0, .int .i64 0, sv [114], .slice none 0 0, .slice none 0 0, .int .i64 1, .int .i64 0, .int .i64 0, .int .i64 0, sv [115], .slice none 0 0, .slice none 0 0, .int .i64 5, .int .i64 0, .int .i64 1, .int .i64 0, sv [], .slice none 0 0, .slice none 0 0] 61)).alloc (.cells #[.int .i64 1, .int .i64 0, .int .i64 0, .int .i64 0, .int .i64 3, .int .i64 1, sv []] 80)) (.slice (some ⟨w3.heap.size, 0, none⟩) 3 3) (.slice (some ⟨w3.heap.size + 1, 0, none⟩) 1 1) 25
    rwa [alsz, alsz] at this
  have p1 : X2.cell? ⟨w3.heap.size + 1 + 1, 1, none⟩ = some (.slice (some ⟨w3.heap.size + 1, 0, none⟩) 1 1) := by
    rw [hX2]
    have := al1 ((w3.alloc (.cells #[.int .i64 1, .int .i64 0, .int .i64 0, .int .i64 0, sv [114], .slice none 0 0, .slice none 0 0, .int .i64 1, .int .i64 0, .int .i64 0, .int .i64 0, sv [115], .slice none 0 0, .slice none 0 0, .int .i64 5, .int .i64 0, .int .i64 1, .int .i64 0, sv [], .slice none 0 0, .slice none 0 0] 61)).alloc (.cells #[.int .i64 1, .int .i64 0, .int .i64 0, .int .i64 0, .int .i64 3, .int .i64 1, sv []] 80)) (.slice (some ⟨w3.heap.size, 0, none⟩) 3 3) (.slice (some ⟨w3.heap.size + 1, 0, none⟩) 1 1) 25
    rwa [alsz, alsz] at this
  have P0 := Lib.hid p0
  have P1 := Lib.hid p1
  have HE23 := Lib.hid (HE3.out.trans EX2.out)
  have HQ2 := Lib.hid (fun (w' : World) (vd : Value) (x y : V) (hE : Ext X2 w') (hd : RdB9 UU w' vd (dbs [⟨[x, y], [7]⟩] [])) (hx : SmV x) (hy : SmV y) => (HEV.out ax2 aq2 (dbs [⟨[x, y], [7]⟩] []) _ _ vd w' (HE23.out.trans hE) (HN2.out.ext hE) (HL2.out.ext hE) hd (fun x hx => by
      simp only [ax2, List.mem_cons, List.not_mem_nil, or_false] at hx; subst hx
      exact ⟨okN_small (by decide) (by decide), okN_small (by decide) (by decide), by simp⟩) (dbs_bd (fun r hr => by
      simp only [List.mem_cons, List.not_mem_nil, or_false] at hr; subst hr
      refine ⟨by simp, fun v hv => ?_, .inl (by simp), fun z hz => hz⟩
      simp only [List.mem_cons, List.not_mem_nil, or_false] at hv
      rcases hv with rfl | rfl
      · exact sm_good (by omega) hx
      · exact sm_good (by omega) hy) (fun r hr => by cases hr)) (fun n hn => by simp only [aq2, List.mem_cons, List.not_mem_nil, or_false] at hn; rcases hn with rfl | rfl | rfl <;> simp) (by simp [dbs])).mono (R' := OneP ⟨[x, y, nul, nul], [7]⟩ w') fun _ _ h => ev_one h (aw_e2 x y [7]))
  have HCK := Lib.hid (fun (w' : World) (hE : Ext X2 w') => (chkQ_prg UU ax2 aq2 [] _ _ (.slice none 0 0) w' (HN2.out.ext hE) (HL2.out.ext hE) ⟨[], rdG_nil _, fun q hq => (by cases hq), rfl⟩ (up_UU _) (fun n hn => by simp only [aq2, List.mem_cons, List.not_mem_nil, or_false] at hn; rcases hn with rfl | rfl | rfl <;> simp)).mono (R' := fun e w'' => ∃ v, e = .returned (.tuple #[v, .int .i64 8]) ∧ Ext w' w'') fun e w'' h => by
    rw [aw_c3] at h
    obtain ⟨v, rfl, _, hE⟩ := h
    exact ⟨v, rfl, hE⟩)
  have HX2 := Lib.hid hX2
  clear hX2 p0 p1
  go_wp2_with fail
  rw [← HX2.out]
  go_region_held3 (fun w' => w'.cell? ⟨w3.heap.size + 1 + 1, 0, none⟩ = some (.slice (some ⟨w3.heap.size, 0, none⟩) 3 3) ∧ w'.cell? ⟨w3.heap.size + 1 + 1, 1, none⟩ = some (.slice (some ⟨w3.heap.size + 1, 0, none⟩) 1 1)) (first | exact ⟨P0.out, P1.out⟩ | exact ⟨((Ext.refl X2).alloc _ _).keeps P0.out, ((Ext.refl X2).alloc _ _).keeps P1.out⟩ | exact ⟨f0, f1⟩ | exact ⟨((Ext.refl w4).alloc _ _).keeps f0, ((Ext.refl w4).alloc _ _).keeps f1⟩ | exact ⟨(((Ext.refl w4).alloc _ _).alloc _ _).keeps f0, (((Ext.refl w4).alloc _ _).alloc _ _).keeps f1⟩ | exact ⟨g0, g1⟩ | exact ⟨h0, h1⟩ | go_keep)
    (first
      | (go_at_call 36; refine (HVL.out _).mono ?_; rintro e w4 ⟨v4, l4, rfl, hO4', hl4, hs4⟩; obtain ⟨a4, c4, rfl, _, _⟩ := hO4'.rd.shape; rw [hl4]; rw [hl4] at hO4'; obtain ⟨x, y, rfl⟩ : ∃ x y, l4 = [x, y] := (match l4, hl4 with | [x, y], _ => ⟨x, y, rfl⟩); have SX := Lib.hid (hs4 x (by simp)); have SY := Lib.hid (hs4 y (by simp)); first
        | (have hO4 : OwnG tV.e X2 w4 (.slice a4 2 c4) [x, y] := hO4'; have HO4 := Lib.hid hO4; have f0 := hO4.2.keeps P0.out; have f1 := hO4.2.keeps P1.out; have HRD := Lib.hid (show RdR UU ((w4.alloc (.cells #[.int .i64 7] 3)).alloc (.cells #[.slice a4 2 c4, .slice (some ⟨w4.heap.size, 0, none⟩) 1 1] 67)) (.slice (some ⟨w4.heap.size + 1, 0, none⟩) 1 1) [⟨[x, y], [7]⟩] from rdR_of (rd_litG (w4.alloc (.cells #[.int .i64 7] 3)) ([⟨⟨a4, 2, c4, some ⟨w4.heap.size, 0, none⟩, 1, 1⟩, ⟨[x, y], [7]⟩⟩] : List P) #[.slice a4 2 c4, .slice (some ⟨w4.heap.size, 0, none⟩) 1 1] 67 _ 1 (by simp) rfl (by simp) rfl) (fun p hp => by simp only [List.mem_cons, List.not_mem_nil, or_false] at hp; subst hp; exact ⟨hO4.rd.ext (((Ext.refl w4).alloc _ _).alloc _ _), (rd_litG w4 ([7] : List Int) #[.int .i64 7] 3 _ 1 rfl rfl (by simp) rfl).ext ((Ext.refl _).alloc _ _)⟩)); have HE4 := Lib.hid (show Ext X2 ((w4.alloc (.cells #[.int .i64 7] 3)).alloc (.cells #[.slice a4 2 c4, .slice (some ⟨w4.heap.size, 0, none⟩) 1 1] 67)) from (hO4.2.alloc _ _).alloc _ _); clear hO4 hO4' hl4 hs4)
        | (have hO4 : OwnG tV.e (X2.alloc (.cells #[.int .i64 7] 3)) w4 (.slice a4 2 c4) [x, y] := hO4'; have e4 : Ext X2 w4 := ((Ext.refl X2).alloc _ _).trans hO4.2; have f0 := e4.keeps P0.out; have f1 := e4.keeps P1.out; have HRD := Lib.hid (show RdR UU (w4.alloc (.cells #[.slice a4 2 c4, .slice (some ⟨X2.heap.size, 0, none⟩) 1 1] 67)) (.slice (some ⟨w4.heap.size, 0, none⟩) 1 1) [⟨[x, y], [7]⟩] from rdR_of (rd_litG w4 ([⟨⟨a4, 2, c4, some ⟨X2.heap.size, 0, none⟩, 1, 1⟩, ⟨[x, y], [7]⟩⟩] : List P) #[.slice a4 2 c4, .slice (some ⟨X2.heap.size, 0, none⟩) 1 1] 67 _ 1 rfl rfl (by simp) rfl) (fun p hp => by simp only [List.mem_cons, List.not_mem_nil, or_false] at hp; subst hp; exact ⟨hO4.rd.ext ((Ext.refl w4).alloc _ _), (rd_litG X2 ([7] : List Int) #[.int .i64 7] 3 _ 1 rfl rfl (by simp) rfl).ext (hO4.2.alloc _ _)⟩)); have HE4 := Lib.hid (show Ext X2 (w4.alloc (.cells #[.slice a4 2 c4, .slice (some ⟨X2.heap.size, 0, none⟩) 1 1] 67)) from e4.alloc _ _); clear hO4 hO4' hl4 hs4 e4))
      | (go_at_call 23; refine (HDB.out [⟨[x, y], [7]⟩] [] _ _ _ ?rd (rdR_nil UU _)).mono ?_; (case rd => exact HRD.out); rintro e w5 ⟨vd, rfl, hd5, hE5'⟩; have hE5 : Ext X2 w5 := HE4.out.trans hE5'; obtain ⟨da5, dc5, rfl, _, _⟩ := hd5.shape; have g0 := hE5.keeps P0.out; have g1 := hE5.keeps P1.out; have HD5 := Lib.hid hd5; have HE5 := Lib.hid hE5; clear hE5' hd5 hE5)
      | (go_at_call 19; refine (HQ2.out _ _ x y ?e1 ?e2 SX.out SY.out).mono ?_; (case e1 => exact HE5.out); (case e2 => exact HD5.out); rintro e w6 ⟨ma, mc, mh, rfl, r6, rr6, hE6'⟩; have hE6 := HE5.out.trans hE6'; have h0 := hE6.keeps P0.out; have h1 := hE6.keeps P1.out; have HR6 := Lib.hid r6; have HRR6 := Lib.hid rr6; have HE6 := Lib.hid hE6; clear r6 rr6 hE6 hE6'))
  all_goals
    go_wp2_with fail
    refine (HCK.out _ HE6.out).mono ?_; rintro e w7 ⟨v7, rfl, hE7⟩
    obtain ⟨ga, oa, rfl, a0, a1⟩ := rd_P HR3.out 0 (by simp)
    have hx3 := HR4.out.1
    obtain ⟨gc, oc, rfl, b0, b1⟩ := rd_P HR6.out 0 (by simp)
    have hx6 := HRR6.out.1
    obtain ⟨ha, hn, hc, hb, hm, hd⟩ := rh
    obtain ⟨ka, kn, kc, kb, km, kd⟩ := mh
    simp only [Hd.x] at hx3 hx6
    obtain rfl : hn = 1 := hx3.len.1
    obtain rfl : kn = 4 := hx6.len.1
    obtain ⟨gb, ob, rfl, c0, c1, c2⟩ := rdV3 hx3 0 (by simp)
    obtain ⟨gd, od, rfl, d0, d1, d2⟩ := rdV3 hx6 3 (by simp)
    have hE37 := (EX2.out.trans HE6.out).trans hE7
    have A0 := Lib.hid (hE37.keeps a0)
    have B0 := Lib.hid (hE37.keeps c0)
    have B1 := Lib.hid (hE37.keeps c1)
    have B2 := Lib.hid (hE37.keeps c2)
    have C0 := Lib.hid (hE7.keeps b0)
    have D0 := Lib.hid (hE7.keeps d0)
    have D1 := Lib.hid (hE7.keeps d1)
    have D2 := Lib.hid (hE7.keeps d2)
    have HEE := Lib.hid (HE3.out.trans hE37)
    clear a0 a1 b0 b1 c0 c1 c2 d0 d1 d2 hE7 hE37 hx3 hx6
    simp only [Nat.zero_mul, Nat.add_zero, List.getElem_cons_zero, List.getElem_cons_succ, Hd.x, nul] at A0 B0 B1 B2 C0 D0 D1 D2 ⊢
    have E0 := Lib.hid (show w7.cell? ⟨gd, od + 9, none⟩ = some (.int .i64 0) from D0.out)
    have E1 := Lib.hid (show w7.cell? ⟨gd, od + 9 + 1, none⟩ = some (.int .i64 0) from D1.out)
    have E2 := Lib.hid (show w7.cell? ⟨gd, od + 9 + 2, none⟩ = some (sv []) from D2.out)
    go_wp2_with fail
    go_region_held3 (fun w' => w'.cell? ⟨ga, oa, none⟩ = some (.slice (some ⟨gb, ob, none⟩) 1 hc) ∧ w'.cell? ⟨gb, ob, none⟩ = some (.int .i64 1) ∧ w'.cell? ⟨gb, ob + 1, none⟩ = some (.int .i64 0) ∧ w'.cell? ⟨gb, ob + 2, none⟩ = some (sv []) ∧ w'.cell? ⟨gc, oc, none⟩ = some (.slice (some ⟨gd, od, none⟩) 4 kc) ∧ w'.cell? ⟨gd, od + 9, none⟩ = some (.int .i64 0) ∧ w'.cell? ⟨gd, od + 9 + 1, none⟩ = some (.int .i64 0) ∧ w'.cell? ⟨gd, od + 9 + 2, none⟩ = some (sv []))
      (first | exact ⟨A0.out, B0.out, B1.out, B2.out, C0.out, E0.out, E1.out, E2.out⟩ | exact ⟨f0, f1, f2, f3, f4, f5, f6, f7⟩ | go_keep)
      (first | (go_at_call 33; refine (HIV.out _).mono ?_; rintro e w8 ⟨rfl, hE8'⟩; have hE8 : Ext w7 w8 := hE8'; have f0 := hE8.keeps A0.out; have f1 := hE8.keeps B0.out; have f2 := hE8.keeps B1.out; have f3 := hE8.keeps B2.out; have f4 := hE8.keeps C0.out; have f5 := hE8.keeps E0.out; have f6 := hE8.keeps E1.out; have f7 := hE8.keeps E2.out))
    all_goals
      go_wp2_with fail
      go_ret
      exact ⟨rfl, HEE.out.trans hE8⟩
end Go.Proofs.YtfojeajmonnifaaGreatDoor
/- A slice as an argument, whatever its elements are. -/
namespace Go.Proofs.YtfojeajmonnifaaGreatDoor
open Go.ChangeShapes Go.WideShapes Go.ChangeAt Go.RowKit Go.Joins

theorem wf_64 {a : Int} (h : (Lit.int .i64 a).wf = true) : -9223372036854775808 ≤ a ∧ a ≤ 9223372036854775807 := by
  have h1 : IntKind.i64.min = -9223372036854775808 := by decide
  have h2 : IntKind.i64.max = 9223372036854775807 := by decide
  simp [Lit.wf] at h
  omega
theorem wf_8 {a : Int} (h : (Lit.int .u8 a).wf = true) : 0 ≤ a ∧ a ≤ 255 := by
  have h1 : IntKind.u8.min = 0 := by decide
  have h2 : IntKind.u8.max = 255 := by decide
  simp [Lit.wf] at h
  omega
theorem wf_s8 {a : Int} (h : (Lit.int .i8 a).wf = true) : -128 ≤ a ∧ a ≤ 127 := by
  have h1 : IntKind.i8.min = -128 := by decide
  have h2 : IntKind.i8.max = 127 := by decide
  simp [Lit.wf] at h
  omega
section
variable {H : Type} {enc : TypeId × Value → H} {w : World} {base : Nat} {held : Bool}
set_option maxRecDepth 100000 in
/-- whatever the elements are -/
theorem open_G {α : Type} [Enc α] (P : α → Prop) {t e : TypeId} (hu : Tryz.prog.underlying t = some (.slice e)) (ce : Tryz.prog.cellsOf e = Enc.sz α)
    (hel : ∀ fuel cs y, cs.length = Enc.sz α → DataW.trod enc Tryz.prog w base (fun _ => true) held fuel e cs = some y → ∃ x : α, cs = Enc.cells x ∧ P x)
    {r : Reach} {b0 : Nat} {v : Value} {d : DataW H} {p : List MemPlace} (hv : Value.okWide Tryz.prog w r b0 t v) (h : DataW.Trod enc Tryz.prog w base (fun _ => true) held t v d p) : ∃ l : List α, RdG w v l ∧ ∀ x ∈ l, P x := by
  obtain ⟨a0, len, cap, rfl⟩ := okWide_slice hu hv
  obtain ⟨fuel, hf⟩ := h
  rcases Go.Deep.open_slice hu hf with ⟨hcs, _⟩ | ⟨a, len', cap', m, n, D, Pl, hcs, _, hl, hm, hmm, _, hx⟩
  · simp [Value.cells] at hcs
    obtain ⟨rfl, rfl, rfl⟩ := hcs
    exact ⟨[], rdG_nil w, fun x hx => by cases hx⟩
  · simp [Value.cells] at hcs
    obtain ⟨rfl, rfl, rfl⟩ := hcs
    simp only [if_true] at hmm
    subst hmm
    have each : ∀ i, i < m → ∃ x : α, (∀ j u, (Enc.cells x)[j]? = some u → w.cell? (a.add (i * Enc.sz α + j)) = some u) ∧ P x := by
      intro i hi
      obtain ⟨cs', h1, h2⟩ := hx i hi
      rw [ce] at h1
      obtain ⟨_, hlen, hcell⟩ := World.cells?_some h1
      obtain ⟨x, rfl, hp⟩ := hel _ _ _ hlen h2
      refine ⟨x, fun j u hu => ?_, hp⟩
      have hj : j < Enc.sz α := by have := (List.getElem?_eq_some_iff.1 hu).1; rw [Enc.len] at this; exact this
      have := hcell j hj
      rw [Go.Deep.add_add, hu] at this
      exact this
    by_cases hm0 : m = 0
    · subst hm0
      obtain rfl : len = 0 := by omega
      exact ⟨[], ⟨some a, 0, rfl, Nat.le_refl _, Nat.zero_le _, (fun _ => rfl), fun i h => by simp at h⟩, fun x hx => by cases hx⟩
    have hp : 0 < m := by omega
    have hspot : a.spot = none := by
      obtain ⟨x, h0, _⟩ := each 0 hp
      obtain ⟨u, hu⟩ : ∃ u, (Enc.cells x)[0]? = some u := ⟨_, List.getElem?_eq_getElem (by rw [Enc.len]; exact Enc.pos)⟩
      have h0 := h0 0 u hu
      simp only [Nat.zero_mul, Nat.add_zero, Addr.add, if_true] at h0
      cases hs : a.spot with
      | none => rfl
      | some s => unfold World.cell? at h0; simp [hs] at h0; split at h0 <;> cases h0
    obtain ⟨g, o, sp⟩ := a
    simp only at hspot
    subst hspot
    have hadd : ∀ j, (⟨g, o, none⟩ : Addr).add j = ⟨g, o + j, none⟩ := fun j => by unfold Addr.add; split <;> simp_all
    obtain ⟨x0, _⟩ := each 0 hp
    have hex : ∀ i, ∃ x : α, i < m → (∀ j u, (Enc.cells x)[j]? = some u → w.cell? ((⟨g, o, none⟩ : Addr).add (i * Enc.sz α + j)) = some u) ∧ P x := fun i => by
      by_cases hi : i < m
      · obtain ⟨x, hx⟩ := each i hi; exact ⟨x, fun _ => hx⟩
      · exact ⟨x0, fun h => absurd h hi⟩
    obtain ⟨val, hval⟩ : ∃ val : Nat → α, ∀ i, i < m → (∀ j u, (Enc.cells (val i))[j]? = some u → w.cell? ((⟨g, o, none⟩ : Addr).add (i * Enc.sz α + j)) = some u) ∧ P (val i) := ⟨fun i => Classical.choose (hex i), fun i => Classical.choose_spec (hex i)⟩
    refine ⟨(List.range len).map val, ⟨some ⟨g, o, none⟩, m, by simp, by simpa using hl, hm, (fun e => by cases e), fun i hi => ⟨g, o, rfl, fun j u hu => ?_⟩⟩, fun x hx => ?_⟩
    · have hi' : i < m := by simp at hi; omega
      have := (hval i hi').1 j u (by simpa using hu)
      rw [hadd] at this
      rw [Nat.add_assoc]; exact this
    · obtain ⟨i, hi, rfl⟩ := List.mem_map.1 hx
      exact (hval i (by have := List.mem_range.1 hi; omega)).2
set_option maxRecDepth 100000 in
/-- the same by the reading alone -/
theorem open_GT {α : Type} [Enc α] (P : α → Prop) {t e : TypeId} (hu : Tryz.prog.underlying t = some (.slice e)) (ce : Tryz.prog.cellsOf e = Enc.sz α)
    (hel : ∀ fuel cs y, cs.length = Enc.sz α → DataW.trod enc Tryz.prog w base (fun _ => true) held fuel e cs = some y → ∃ x : α, cs = Enc.cells x ∧ P x)
    {fuel : Nat} {cs : List Value} {y : DataW H × List MemPlace} (hf : DataW.trod enc Tryz.prog w base (fun _ => true) held fuel t cs = some y) : ∃ (v : Value) (l : List α), cs = [v] ∧ RdG w v l ∧ ∀ x ∈ l, P x := by
  rcases Go.Deep.open_slice hu hf with ⟨hcs, _⟩ | ⟨a, len, cap, m, n, D, Pl, hcs, _, hl, hm, hmm, _, hx⟩
  · exact ⟨_, [], hcs, rdG_nil w, fun x hx => by cases hx⟩
  · simp only [if_true] at hmm
    subst hmm
    have each : ∀ i, i < m → ∃ x : α, (∀ j u, (Enc.cells x)[j]? = some u → w.cell? (a.add (i * Enc.sz α + j)) = some u) ∧ P x := by
      intro i hi
      obtain ⟨cs', h1, h2⟩ := hx i hi
      rw [ce] at h1
      obtain ⟨_, hlen, hcell⟩ := World.cells?_some h1
      obtain ⟨x, rfl, hp⟩ := hel _ _ _ hlen h2
      refine ⟨x, fun j u hu => ?_, hp⟩
      have hj : j < Enc.sz α := by have := (List.getElem?_eq_some_iff.1 hu).1; rw [Enc.len] at this; exact this
      have := hcell j hj
      rw [Go.Deep.add_add, hu] at this
      exact this
    by_cases hm0 : m = 0
    · subst hm0
      obtain rfl : len = 0 := by omega
      exact ⟨_, [], hcs, ⟨some a, 0, rfl, Nat.le_refl _, Nat.zero_le _, (fun _ => rfl), fun i h => by simp at h⟩, fun x hx => by cases hx⟩
    have hp : 0 < m := by omega
    have hspot : a.spot = none := by
      obtain ⟨x, h0, _⟩ := each 0 hp
      obtain ⟨u, hu⟩ : ∃ u, (Enc.cells x)[0]? = some u := ⟨_, List.getElem?_eq_getElem (by rw [Enc.len]; exact Enc.pos)⟩
      have h0 := h0 0 u hu
      simp only [Nat.zero_mul, Nat.add_zero, Addr.add, if_true] at h0
      cases hs : a.spot with
      | none => rfl
      | some s => unfold World.cell? at h0; simp [hs] at h0; split at h0 <;> cases h0
    obtain ⟨g, o, sp⟩ := a
    simp only at hspot
    subst hspot
    have hadd : ∀ j, (⟨g, o, none⟩ : Addr).add j = ⟨g, o + j, none⟩ := fun j => by unfold Addr.add; split <;> simp_all
    obtain ⟨x0, _⟩ := each 0 hp
    have hex : ∀ i, ∃ x : α, i < m → (∀ j u, (Enc.cells x)[j]? = some u → w.cell? ((⟨g, o, none⟩ : Addr).add (i * Enc.sz α + j)) = some u) ∧ P x := fun i => by
      by_cases hi : i < m
      · obtain ⟨x, hx⟩ := each i hi; exact ⟨x, fun _ => hx⟩
      · exact ⟨x0, fun h => absurd h hi⟩
    obtain ⟨val, hval⟩ : ∃ val : Nat → α, ∀ i, i < m → (∀ j u, (Enc.cells (val i))[j]? = some u → w.cell? ((⟨g, o, none⟩ : Addr).add (i * Enc.sz α + j)) = some u) ∧ P (val i) := ⟨fun i => Classical.choose (hex i), fun i => Classical.choose_spec (hex i)⟩
    refine ⟨_, (List.range len).map val, hcs, ⟨some ⟨g, o, none⟩, m, by simp, by simpa using hl, hm, (fun e => by cases e), fun i hi => ⟨g, o, rfl, fun j u hu => ?_⟩⟩, fun x hx => ?_⟩
    · have hi' : i < m := by simp at hi; omega
      have := (hval i hi').1 j u (by simpa using hu)
      rw [hadd] at this
      rw [Nat.add_assoc]; exact this
    · obtain ⟨i, hi, rfl⟩ := List.mem_map.1 hx
      exact (hval i (by have := List.mem_range.1 hi; omega)).2
end
end Go.Proofs.YtfojeajmonnifaaGreatDoor
/- Five small numbers: what the laws' builders take. -/
namespace Go.Proofs.YtfojeajmonnifaaGreatDoor
open Go.ChangeShapes Go.WideShapes Go.ChangeAt Go.RowKit

structure Five where
  a : Int
  b : Int
  c : Int
  d : Int
  e : Int
abbrev Five.v (x : Five) : Value := .agg #[.int .u16 x.a, .int .u16 x.b, .int .u16 x.c, .int .u16 x.d, .int .u16 x.e]
def Five.ok (x : Five) : Prop := (0 ≤ x.a ∧ x.a ≤ 65535) ∧ (0 ≤ x.b ∧ x.b ≤ 65535) ∧ (0 ≤ x.c ∧ x.c ≤ 65535) ∧ (0 ≤ x.d ∧ x.d ≤ 65535) ∧ (0 ≤ x.e ∧ x.e ≤ 65535)
instance : Enc Five := ⟨5, by decide, fun x => [.int .u16 x.a, .int .u16 x.b, .int .u16 x.c, .int .u16 x.d, .int .u16 x.e], fun _ => rfl, fun a u h => by simp at h; rcases h with rfl | rfl | rfl | rfl | rfl <;> rfl⟩
theorem rd_Five {w : World} {ad : Option Addr} {n cap : Nat} {l : List Five} (h : RdG w (.slice ad n cap) l) (i : Nat) (hi : i < l.length) : ∃ g o, ad = some ⟨g, o, none⟩ ∧ w.cell? ⟨g, o + i * 5, none⟩ = some (.int .u16 l[i].a) ∧ w.cell? ⟨g, o + i * 5 + 1, none⟩ = some (.int .u16 l[i].b) ∧ w.cell? ⟨g, o + i * 5 + 2, none⟩ = some (.int .u16 l[i].c) ∧ w.cell? ⟨g, o + i * 5 + 3, none⟩ = some (.int .u16 l[i].d) ∧ w.cell? ⟨g, o + i * 5 + 4, none⟩ = some (.int .u16 l[i].e) := by
  obtain ⟨g, o, e, c⟩ := h.at i hi
  exact ⟨g, o, e, c 0 _ rfl, c 1 _ rfl, c 2 _ rfl, c 3 _ rfl, c 4 _ rfl⟩
end Go.Proofs.YtfojeajmonnifaaGreatDoor
