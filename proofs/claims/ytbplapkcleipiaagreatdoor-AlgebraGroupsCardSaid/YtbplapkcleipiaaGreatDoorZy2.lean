/- Predicate and nodes for the numbers 0, 0, 0, 0. -/
import Derived.Test.YtbplapkcleipiaaGreatDoorZz43
import Derived.Test.YtbplapkcleipiaaGreatDoorZy1
namespace Go.Proofs.YtbplapkcleipiaaGreatDoor
open Go.ChangeShapes Go.WideShapes Go.ChangeAt Go.RowKit

def pz0 : List X := [⟨2, 0, 0, 0, nul⟩, ⟨11, 0, 0, 0, nul⟩]
set_option maxHeartbeats 4000000 in
set_option maxRecDepth 100000 in
theorem pred0_prg (ka : Option Addr) (kc : Nat) (w : World) : Calls Tryz.prog 20 #[.slice none 0 0, .slice ka 2 kc, .agg #[.int .u16 0, .int .u16 0, .int .u16 0, .int .u16 0]] w fun e w' => ∃ v, e = .returned (.tuple #[v, .int .i64 1]) ∧ OwnG tX.e w w' v pz0 := by
  have HP := Lib.hid (fun w => pick_prg 0 2 w (by omega) (by omega) (by omega))
  obtain ⟨w0, hw0⟩ : ∃ w0, w0 = w.alloc (.cells #[.int .u16 0, .int .u16 0, .int .u16 0, .int .u16 0] 40) := ⟨_, rfl⟩
  have EX := Lib.hid (show Ext w w0 by rw [hw0]; exact (Ext.refl _).alloc _ _)
  have HB := Lib.hid (show Bxn w.heap.size [.int .u16 0, .int .u16 0, .int .u16 0, .int .u16 0] w0 by rw [hw0]; exact Bxn.new w _ _)
  have k0 := (HB.out.2 0 _ rfl).1
  have k1 := (HB.out.2 1 _ rfl).1
  have k2 := (HB.out.2 2 _ rfl).1
  have K0 := Lib.hid k0
  have K1 := Lib.hid k1
  have K2 := Lib.hid k2
  clear k0 k1 k2
  have HW0 := Lib.hid hw0
  clear hw0
  go_enter Tryz.func20, Tryz.ntmps20
  go_wp2_with fail
  rw [← HW0.out]
  go_region_held3 (fun w' => w'.cell? ⟨w.heap.size, 0, none⟩ = some (.int .u16 0) ∧ w'.cell? ⟨w.heap.size, 1, none⟩ = some (.int .u16 0)) (first | exact ⟨K0.out, K1.out⟩ | go_keep)
    (first | (go_at_call 32; refine (HP.out _).mono ?_; rintro e w1 ⟨rfl, rfl⟩))
  all_goals
    have c2 : w0.drew.cell? ⟨w.heap.size, 2, none⟩ = some (.int .u16 0) := K2.out
    have EX1 := Lib.hid (show Ext w w0.drew from EX.out.drew)
    generalize w0.drew = w1 at c2 EX1 ⊢
    clear K0 K1 K2 HB EX HW0 HP
    go_wp2_with (first
      | (at_builtin; refine appG tX rfl _ _ rfl w1 _ [] rfl (OwnG.nil _ _ _ ((Ext.refl w1).alloc _ _)) _ [⟨2, 0, 0, 0, nul⟩] rfl (rd_litG w1 ([⟨2, 0, 0, 0, nul⟩] : List X) #[.int .i64 2, .int .i64 0, .int .i64 0, .int .i64 0, .int .i64 0, .int .i64 0, sv []] 64 _ 1 rfl rfl (by simp) rfl) (by simp) ?_; intro v2 w2 hO2 hg2; have c3 := grow_cell hg2 (((Ext.refl w1).alloc #[.int .i64 2, .int .i64 0, .int .i64 0, .int .i64 0, .int .i64 0, .int .i64 0, sv []] 64).keeps c2) (fun kk hh => by cases hh); obtain ⟨a2, p2, rfl, _, _⟩ := hO2.rd.shape)
      | (at_builtin; refine appG tX rfl _ _ rfl w1 _ ([] ++ [⟨2, 0, 0, 0, nul⟩]) rfl (hO2.ext ((Ext.refl w2).alloc _ _)) _ [⟨11, 0, 0, 0, nul⟩] rfl (rd_litG w2 ([⟨11, 0, 0, 0, nul⟩] : List X) #[.int .i64 11, .int .i64 0, .int .i64 0, .int .i64 0, .int .i64 0, .int .i64 0, sv []] 64 _ 1 rfl rfl (by simp) rfl) (by simp) ?_; intro v3 w3 hO3 hg3; obtain ⟨a3, p3, rfl, _, _⟩ := hO3.rd.shape))
    go_ret2
    exact ⟨_, rfl, hO3.base EX1.out⟩
/-- the queries of the laws: two scans, one more node -/
def qz0 (k a b : Int) : List Nd := [⟨1, 0, 0, 1, [114], [], []⟩, ⟨1, 0, 0, 1, [115], [], []⟩, ⟨k, a, b, 1, [], [], []⟩]
def nz0 (k a b : Int) : Nat → List Nd
  | 0 => [⟨1, 0, 0, 0, [114], [], []⟩, ⟨1, 0, 0, 0, [115], [], []⟩, ⟨k, a, b, 0, [], [], []⟩]
  | 1 => [⟨1, 0, 0, 1, [114], [], []⟩, ⟨1, 0, 0, 0, [115], [], []⟩, ⟨k, a, b, 0, [], [], []⟩]
  | 2 => [⟨1, 0, 0, 1, [114], [], []⟩, ⟨1, 0, 0, 1, [115], [], []⟩, ⟨k, a, b, 0, [], [], []⟩]
  | _ => qz0 k a b
theorem own_shape {α : Type} [Enc α] {e : TypeId} {W w : World} {v : Value} {l : List α} (h : OwnG e W w v l) (hl : l.length ≠ 0) : ∃ g cap, v = .slice (some ⟨g, 0, none⟩) l.length cap := by
  rcases h.1.2 with ⟨_, h0⟩ | ⟨g, cap, cur, e, _⟩
  · exact absurd h0 hl
  · exact ⟨g, cap, e⟩
abbrev hd0 : Hd := ⟨none, 0, 0, none, 0, 0⟩
def nzP (k a b : Int) (j : Nat) : List NdP := (nz0 k a b j).map (NdP.mk hd0)
theorem nz_set (k a b : Int) (j : Nat) (hj : j < 3) : (nzP k a b j).set j ⟨hd0, { (nz0 k a b j)[j]'(by unfold nz0; split <;> simp [qz0] <;> omega) with p := 1 }⟩ = nzP k a b (j + 1) := by
  rcases (show j = 0 ∨ j = 1 ∨ j = 2 by omega) with rfl | rfl | rfl <;> rfl
theorem nz_rd {w : World} {v : Value} {k a b : Int} {j : Nat} (h : RdG w v (nzP k a b j)) : RdN w v (nz0 k a b j) := by
  refine ⟨nzP k a b j, h, fun q hq => ?_, by unfold nzP; rw [List.map_map]; exact List.map_id _⟩
  obtain ⟨n, hn, rfl⟩ := List.mem_map.1 hq
  have : n.ex = [] ∧ n.ag = [] := by
    unfold nz0 at hn
    split at hn <;> simp only [qz0, List.mem_cons, List.not_mem_nil, or_false] at hn <;> rcases hn with rfl | rfl | rfl <;> exact ⟨rfl, rfl⟩
  unfold RdNd
  rw [this.1, this.2]; exact ⟨rdG_nil _, rdG_nil _⟩
theorem Bxn.far {b b' o : Nat} {l : List Value} {w : World} {u : Value} (h : Bxn b l w) (hne : b' ≠ b) : Bxn b l (w.setCell ⟨b', o, none⟩ u) :=
  ⟨by simpa [World.setCell] using h.1, fun j v hj => ⟨(World.cell?_setCell_far _ _ _ _ hne).trans (h.2 j v hj).1, by rw [World.frozen?_setCell]; exact (h.2 j v hj).2⟩⟩
def NzR (W : World) (k a b : Int) (g cap qb rb : Nat) (ve : Value) (i : Value) (wr : World) : Prop :=
  ∃ j : Nat, j ≤ 3 ∧ i = .int .i64 j ∧ OwnG tNd.e W wr (.slice (some ⟨g, 0, none⟩) 3 cap) (nzP k a b j) ∧ Bxn qb [.slice (some ⟨g, 0, none⟩) 3 cap, ve] wr ∧ Bxn rb [.slice none 0 0, .slice none 0 0] wr ∧ RdG wr ve pz0 ∧ In (fun q => some q ≠ some g) ve ∧ In (fun q => some q ≠ some rb) ve
set_option maxHeartbeats 8000000 in
set_option maxRecDepth 100000 in
theorem nodes0_prg (k a b : Int) (vl : Value) (w : World) (hl : RdG w vl ([⟨hd0, ⟨k, a, b, 0, [], [], []⟩⟩] : List NdP)) :
    Calls Tryz.prog 17 #[.agg #[.int .u16 0, .int .u16 0, .int .u16 0, .int .u16 0], vl] w fun e w' => ∃ vn ve, e = .returned (.agg #[vn, ve]) ∧ RdN w' vn (qz0 k a b) ∧ RdG w' ve pz0 ∧ Ext w w' := by
  obtain ⟨la, lc, rfl, _, _⟩ := hl.shape
  have HL := Lib.hid hl
  have HKN := Lib.hid (fun w => kinds_prg w)
  have HPR := Lib.hid (fun ka kc w => pred0_prg ka kc w)
  clear hl
  obtain ⟨w0, hw0⟩ : ∃ w0, w0 = (w.alloc (.cells #[.int .u16 0, .int .u16 0, .int .u16 0, .int .u16 0] 40)).alloc (.cells #[.slice none 0 0, .slice none 0 0] 26) := ⟨_, rfl⟩
  have EX := Lib.hid (show Ext w w0 by rw [hw0]; exact ((Ext.refl _).alloc _ _).alloc _ _)
  have HA := Lib.hid (show Bxn w.heap.size [.int .u16 0, .int .u16 0, .int .u16 0, .int .u16 0] w0 by rw [hw0]; exact (Bxn.new w _ _).ext ((Ext.refl _).alloc _ _))
  have HR := Lib.hid (show Bxn (w.heap.size + 1) [.slice none 0 0, .slice none 0 0] w0 by rw [hw0, ← alsz w]; exact Bxn.new _ _ _)
  have HS0 := Lib.hid (show w0.heap.size = w.heap.size + 1 + 1 by rw [hw0]; simp)
  have HO0 := Lib.hid (own_litB tNd.e (Ext.refl w0) ([⟨hd0, ⟨1, 0, 0, 0, [114], [], []⟩⟩, ⟨hd0, ⟨1, 0, 0, 0, [115], [], []⟩⟩] : List NdP) #[.int .i64 1, .int .i64 0, .int .i64 0, .int .i64 0, sv [114], .slice none 0 0, .slice none 0 0, .int .i64 1, .int .i64 0, .int .i64 0, .int .i64 0, sv [115], .slice none 0 0, .slice none 0 0] w0.heap.size 2 rfl rfl (by simp) rfl)
  have HLX := Lib.hid (HL.out.ext (EX.out.alloc #[.int .i64 1, .int .i64 0, .int .i64 0, .int .i64 0, sv [114], .slice none 0 0, .slice none 0 0, .int .i64 1, .int .i64 0, .int .i64 0, .int .i64 0, sv [115], .slice none 0 0, .slice none 0 0] 45))
  have HW0 := Lib.hid hw0
  clear hw0
  go_enter Tryz.func17, Tryz.ntmps17
  go_wp2_with (at_builtin; rw [← HW0.out]; refine appGL tNd rfl _ _ rfl w0 _ [⟨hd0, ⟨1, 0, 0, 0, [114], [], []⟩⟩, ⟨hd0, ⟨1, 0, 0, 0, [115], [], []⟩⟩] (by simp only [HS0.out]; rfl) HO0.out _ [⟨hd0, ⟨k, a, b, 0, [], [], []⟩⟩] rfl HLX.out (by simp) ?_; intro v2 w2 hO2 hg2 hl2; obtain ⟨g2, cap2, rfl⟩ : ∃ g cap, v2 = .slice (some ⟨g, 0, none⟩) 3 cap := own_shape hO2 (by simp))
  obtain ⟨X3, hX3⟩ : ∃ X3, X3 = w2.alloc (.cells #[.slice (some ⟨g2, 0, none⟩) 3 cap2, .slice none 0 0] 26) := ⟨_, rfl⟩
  have hE3 : Ext w2 X3 := by rw [hX3]; exact (Ext.refl _).alloc _ _
  have HE3 := Lib.hid hE3
  have HO2 := Lib.hid (show OwnG tNd.e w0 X3 (.slice (some ⟨g2, 0, none⟩) 3 cap2) (nzP k a b 0) from hO2.ext hE3)
  have HQ := Lib.hid (show Bxn w2.heap.size [.slice (some ⟨g2, 0, none⟩) 3 cap2, .slice none 0 0] X3 by rw [hX3]; exact Bxn.new _ _ _)
  have HA3 := Lib.hid (HA.out.ext (hO2.2.trans hE3))
  have HR3 := Lib.hid (HR.out.ext (hO2.2.trans hE3))
  have HG2 := Lib.hid (show g2 < w2.heap.size from hO2.lt g2 rfl)
  have HSA := Lib.hid (show w.heap.size + 1 < w2.heap.size by have := HS0.out; have := hO2.2.2.2; omega)
  have HX3 := Lib.hid hX3
  have A0 := Lib.hid (HA3.out.2 0 _ rfl).1
  have A1 := Lib.hid (HA3.out.2 1 _ rfl).1
  have A2 := Lib.hid (HA3.out.2 2 _ rfl).1
  have A3 := Lib.hid (HA3.out.2 3 _ rfl).1
  have HEX := Lib.hid (EX.out.trans (hO2.2.trans hE3))
  clear hO2 hg2 hl2 hE3 hX3 HLX HO0 HW0
  go_wp2_with fail
  rw [← HX3.out]
  have hne : ¬ w2.heap.size = w.heap.size := by have := HSA.out; omega
  go_region_held3 (fun w' => w'.cell? ⟨w.heap.size, 0, none⟩ = some (.int .u16 0) ∧ w'.cell? ⟨w.heap.size, 1, none⟩ = some (.int .u16 0) ∧ w'.cell? ⟨w.heap.size, 2, none⟩ = some (.int .u16 0) ∧ w'.cell? ⟨w.heap.size, 3, none⟩ = some (.int .u16 0))
    (first | exact ⟨A0.out, A1.out, A2.out, A3.out⟩ | exact ⟨f0, f1, f2, f3⟩ | exact ⟨g0, g1, g3, g4⟩ | exact ⟨(World.cell?_setCell_far _ _ _ _ hne).trans g0, (World.cell?_setCell_far _ _ _ _ hne).trans g1, (World.cell?_setCell_far _ _ _ _ hne).trans g3, (World.cell?_setCell_far _ _ _ _ hne).trans g4⟩ | go_keep)
    (first
      | (go_at_call 21; refine (HKN.out _).mono ?_; rintro e w4 ⟨ka, kc, rfl, _, hE4'⟩; have hE4 : Ext X3 w4 := hE4'; have f0 := hE4.keeps A0.out; have f1 := hE4.keeps A1.out; have f2 := hE4.keeps A2.out; have f3 := hE4.keeps A3.out; have HE4 := Lib.hid hE4; clear hE4 hE4')
      | (go_at_call 20; refine (HPR.out ka kc _).mono ?_; rintro e w5 ⟨v5, rfl, h5'⟩; have h5 : OwnG tX.e w4 w5 v5 pz0 := h5'; obtain ⟨a5, c5, rfl, _, _⟩ := h5.rd.shape; have hE5 := HE4.out.trans h5.2; have g0 := hE5.keeps A0.out; have g1 := hE5.keeps A1.out; have g3 := hE5.keeps A2.out; have g4 := hE5.keeps A3.out; have hq5 := HQ.out.ext hE5; have b1 := (hq5.2 1 _ rfl).1; have b1f := (hq5.2 1 _ rfl).2; have bs := hq5.1; have HQ5 := Lib.hid hq5; have HE5 := Lib.hid hE5; have H5 := Lib.hid h5; clear hq5 hE5 h5 h5'))
  all_goals
    obtain ⟨X6, hX6⟩ : ∃ X6, X6 = w5.setCell ⟨w2.heap.size, 1, none⟩ (.slice a5 pz0.length c5) := ⟨_, rfl⟩
    have hb5 : ∀ q, (Value.slice a5 pz0.length c5).ownBlock = some q → X3.heap.size ≤ q := fun q hq => Nat.le_trans HE4.out.2.2 (H5.out.blk q hq).1
    have hX3s : w2.heap.size < X3.heap.size := HQ.out.1
    have HOX := Lib.hid (show OwnG tNd.e w0 X6 (.slice (some ⟨g2, 0, none⟩) 3 cap2) (nzP k a b 0) by
      rw [hX6]
      refine (HO2.out.ext HE5.out).other (set_grw _ _ _ _) (fun q hq => ?_) (.inr fun e => ?_)
      · injection hq with hq; have := HS0.out; have := HSA.out; omega
      · have e2 : g2 = w2.heap.size := Option.some.inj e
        have := HG2.out; omega)
    have HQX := Lib.hid (show Bxn w2.heap.size [.slice (some ⟨g2, 0, none⟩) 3 cap2, .slice a5 pz0.length c5] X6 by rw [hX6]; exact HQ5.out.set 1 _)
    have HRX := Lib.hid (show Bxn (w.heap.size + 1) [.slice none 0 0, .slice none 0 0] X6 by rw [hX6]; exact (HR3.out.ext HE5.out).far (by have := HSA.out; omega))
    have HLV := Lib.hid (show RdG X6 (.slice a5 pz0.length c5) pz0 by
      rw [hX6]
      refine H5.out.rd.out (set_grw _ _ _ _) (fun q hq _ e => ?_)
      injection e with e; have := hb5 q hq; omega)
    have HIN := Lib.hid (show In (fun q => some q ≠ some g2) (.slice a5 pz0.length c5) from fun q hq _ e => by
      injection e with e; have := hb5 q hq; have := HG2.out; omega)
    have HIR := Lib.hid (show In (fun q => some q ≠ some (w.heap.size + 1)) (.slice a5 pz0.length c5) from fun q hq _ e => by
      have e2 : q = w.heap.size + 1 := Option.some.inj e
      have := hb5 q hq; have := HSA.out; omega)
    have HEX6 := Lib.hid (show Ext w X6 by rw [hX6]; exact (HEX.out.trans HE5.out).setNew _ _ (by have := HSA.out; omega) _)
    have HX6 := Lib.hid hX6
    clear hX6 hb5 hX3s b1 b1f bs
    rw [← HX6.out]
    have t0 := (HQX.out.2 0 _ rfl).1
    go_wp2_with fail
    have HGR := Lib.hid (show w.heap.size + 1 < g2 by have h := (HO2.out.blk g2 rfl).1; have := HS0.out; omega)
    go_loopw [24] (NzR w0 k a b g2 cap2 w2.heap.size (w.heap.size + 1) (.slice a5 pz0.length c5)) (fun i _ => 3 - (intOf i).toNat)
    case atStart => exact ⟨0, by omega, rfl, HOX.out, HQX.out, HRX.out, HLV.out, HIN.out, HIR.out⟩
    case round =>
      obtain ⟨j, hj, rfl, hO, hB, hR, hV, hI, hI2⟩ := hrel
      have b0 := (hB.2 0 _ rfl).1
      have b1 := (hB.2 1 _ rfl).1
      have r0 := (hR.2 0 _ rfl).1
      have r0f := (hR.2 0 _ rfl).2
      have r1 := (hR.2 1 _ rfl).1
      have r1f := (hR.2 1 _ rfl).2
      have sb := hB.1
      have sr := hR.1
      rcases (show j = 0 ∨ j = 1 ∨ j = 2 ∨ j = 3 by omega) with rfl | rfl | rfl | rfl
      · obtain ⟨g', o', e', hc⟩ := hO.rd.at 0 (by show 0 < (nzP k a b 0).length; simp [nzP, nz0])
        cases e'
        have z := hc 3 _ rfl
        have zf := hO.1.frozenAt (0 * 7 + 3)
        simp only [Nat.zero_add, Nat.zero_mul, Enc.sz] at z zf
        have hOn := own_setJ hO 0 3 (by show 0 < (nzP k a b 0).length; simp [nzP, nz0]) (by decide) ⟨hd0, ⟨1, 0, 0, 1, [114], [], []⟩⟩ (.int .i64 1) rfl
        have HON := Lib.hid (show OwnG tNd.e w0 (wr.setCell ⟨g2, 3, none⟩ (.int .i64 1)) (.slice (some ⟨g2, 0, none⟩) 3 cap2) (nzP k a b 1) from hOn)
        have hlt := World.block_lt_of_cell? _ _ z
        clear hOn
        go_wp2_with fail
        go_roundw
        case rel => exact ⟨1, by omega, rfl, HON.out, hB.far (by have := HG2.out; omega), hR.far (by have := HGR.out; omega), hV.out (set_grw _ _ _ _) (fun q hq hl e => hI q hq hl e), hI, hI2⟩
        case measure => simp [intOf]
      · obtain ⟨g', o', e', hc⟩ := hO.rd.at 1 (by show 1 < (nzP k a b 1).length; simp [nzP, nz0])
        cases e'
        have z := hc 3 _ rfl
        have zf := hO.1.frozenAt (1 * 7 + 3)
        simp only [Nat.zero_add, Enc.sz] at z zf
        have hOn := own_setJ hO 1 3 (by show 1 < (nzP k a b 1).length; simp [nzP, nz0]) (by decide) ⟨hd0, ⟨1, 0, 0, 1, [115], [], []⟩⟩ (.int .i64 1) rfl
        have HON := Lib.hid (show OwnG tNd.e w0 (wr.setCell ⟨g2, 10, none⟩ (.int .i64 1)) (.slice (some ⟨g2, 0, none⟩) 3 cap2) (nzP k a b 2) from hOn)
        have hlt := World.block_lt_of_cell? _ _ z
        clear hOn
        go_wp2_with fail
        go_roundw
        case rel => exact ⟨2, by omega, rfl, HON.out, hB.far (by have := HG2.out; omega), hR.far (by have := HGR.out; omega), hV.out (set_grw _ _ _ _) (fun q hq hl e => hI q hq hl e), hI, hI2⟩
        case measure => simp [intOf]
      · obtain ⟨g', o', e', hc⟩ := hO.rd.at 2 (by show 2 < (nzP k a b 2).length; simp [nzP, nz0])
        cases e'
        have z := hc 3 _ rfl
        have zf := hO.1.frozenAt (2 * 7 + 3)
        simp only [Nat.zero_add, Enc.sz] at z zf
        have hOn := own_setJ hO 2 3 (by show 2 < (nzP k a b 2).length; simp [nzP, nz0]) (by decide) ⟨hd0, ⟨k, a, b, 1, [], [], []⟩⟩ (.int .i64 1) rfl
        have HON := Lib.hid (show OwnG tNd.e w0 (wr.setCell ⟨g2, 17, none⟩ (.int .i64 1)) (.slice (some ⟨g2, 0, none⟩) 3 cap2) (nzP k a b 3) from hOn)
        have hlt := World.block_lt_of_cell? _ _ z
        clear hOn
        go_wp2_with fail
        go_roundw
        case rel => exact ⟨3, by omega, rfl, HON.out, hB.far (by have := HG2.out; omega), hR.far (by have := HGR.out; omega), hV.out (set_grw _ _ _ _) (fun q hq hl e => hI q hq hl e), hI, hI2⟩
        case measure => simp [intOf]
      · have hR2 := (hR.set 0 (.slice (some ⟨g2, 0, none⟩) 3 cap2)).set 1 (.slice a5 pz0.length c5)
        have z0 := (hR2.2 0 _ rfl).1
        have z1 := (hR2.2 1 _ rfl).1
        have HF := Lib.hid (show Grw wr ((wr.setCell ⟨w.heap.size + 1, 0, none⟩ (.slice (some ⟨g2, 0, none⟩) 3 cap2)).setCell ⟨w.heap.size + 1, 1, none⟩ (.slice a5 pz0.length c5)) (some (w.heap.size + 1)) from (set_grw _ _ _ _).trans (set_grw _ _ _ _) (.inl rfl))
        have HON := Lib.hid (nz_rd (hO.rd.out HF.out (fun q hq _ e => by
          injection hq with hq; subst hq
          have e2 : g2 = w.heap.size + 1 := Option.some.inj e
          have := HGR.out; omega)))
        have HVN := Lib.hid (hV.out HF.out hI2)
        have HEN := Lib.hid (((EX.out.trans hO.2).setNew (w.heap.size + 1) 0 (by omega) (.slice (some ⟨g2, 0, none⟩) 3 cap2)).setNew (w.heap.size + 1) 1 (by omega) (.slice a5 pz0.length c5))
        clear hR2 hO hV
        go_wp2_with fail
        exact bodyPost_ret (v := .agg #[.slice (some ⟨g2, 0, none⟩) 3 cap2, .slice a5 pz0.length c5]) (by simp [results, Tryz.results17, go_sem, z0, z1]) rfl ⟨_, _, rfl, HON.out, HVN.out, HEN.out⟩
end Go.Proofs.YtbplapkcleipiaaGreatDoor
