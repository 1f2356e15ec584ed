/- The laws' builder of lists of tuples. -/
import Derived.Test.YtcankdikbnllkaaGreatZz15
import Derived.Test.YtcankdikbnllkaaGreatZz19
import Derived.Test.YtcankdikbnllkaaGreatZz37
import Derived.Test.YtcankdikbnllkaaGreatZz42
import Derived.Test.YtcankdikbnllkaaGreatZz44
namespace Go.Proofs.YtcankdikbnllkaaGreat
open Go.ChangeShapes Go.WideShapes Go.ChangeAt Go.RowKit

/-- small values, lineages of 1 to 5 -/
def GdR (r : R) : Prop := (∀ v ∈ r.v, SmV v) ∧ ∀ x ∈ r.t, 1 ≤ x ∧ x ≤ 5
/-- what a tuple of the builder is -/
def TsOk (W w : World) (t : TP) : Prop := (RdG w t.h.x t.r.v ∧ RdG w t.h.y t.r.t) ∧ (Off tT.e W w t.h.x ∧ Off tT.e W w t.h.y) ∧ t.r.v.length = 2 ∧ t.r.t.length = 1 ∧ GdR t.r
theorem TsOk.ext {W w w' : World} {t : TP} (h : TsOk W w t) (k : Ext w w') : TsOk W w' t := ⟨⟨h.1.1.ext k, h.1.2.ext k⟩, ⟨h.2.1.1.ext k, h.2.1.2.ext k⟩, h.2.2⟩
theorem TsOk.grw {W w w' : World} {t : TP} {b : Option Nat} (h : TsOk W w t) (k : Grw w w' b) (hb : RowBlk tT.e W w b) : TsOk W w' t :=
  ⟨⟨h.1.1.grw h.2.1.1 k hb, h.1.2.grw h.2.1.2 k hb⟩, ⟨h.2.1.1.grw k hb, h.2.1.2.grw k hb⟩, h.2.2⟩
def TuR (M : Nat) (w : World) (vo i : Value) (wr : World) : Prop := ∃ (k : Nat) (ts : List TP), k ≤ M ∧ i = .int .i64 k ∧ OwnG tT.e w wr vo ts ∧ (∀ t ∈ ts, TsOk w wr t) ∧ ts.length = k
/-- what Tuples returns -/
def TuP (M : Nat) (w : World) (e : Ending) (w' : World) : Prop := ∃ (v : Value) (ts : List TP), e = .returned v ∧ OwnG tT.e w w' v ts ∧ (∀ t ∈ ts, TsOk w w' t) ∧ ts.length ≤ M
theorem tu_next {w X w5 : World} {vo : Value} {ts : List TP} {p : TP} (hO : OwnG tT.e w X vo ts) (hT : ∀ t ∈ ts, TsOk w X t) (hp : TsOk w X p) (hg : X.grownBy w5 vo.ownBlock) : ∀ t ∈ ts ++ [p], TsOk w w5 t := fun t ht => by
  rcases List.mem_append.1 ht with ht | ht
  · exact (hT t ht).grw (grw_by hg) hO.blk
  · obtain rfl := List.mem_singleton.1 ht
    exact hp.grw (grw_by hg) hO.blk
set_option maxHeartbeats 8000000 in
set_option maxRecDepth 100000 in
theorem tuples_law (M : Nat) (hM : M ≤ 30) (l : List Five) (v : Value) (w : World) (h : RdG w v l) (hok : ∀ x ∈ l, x.ok) : Calls Tryz.prog 26 #[v, .int .i64 M] w (TuP M w) := by
  obtain ⟨ad, cap, rfl, h1, h2⟩ := h.shape
  have H := Lib.hid h
  have HK := Lib.hid hok
  clear h hok
  unfold maxLen at h2
  obtain ⟨n, hn⟩ : ∃ n, n = l.length := ⟨_, rfl⟩
  have HN := Lib.hid hn
  rw [← hn] at H h1 ⊢
  clear hn
  go_enter Tryz.func26, Tryz.ntmps26
  go_wp2_with fail
  go_loopw [5, 6] (TuR M w) (fun _ i _ => M - (intOf i).toNat)
  case atStart => exact ⟨0, [], by omega, rfl, OwnG.nil _ _ _ (Ext.refl _), (fun t h => by cases h), rfl⟩
  case round =>
    obtain ⟨k, ts, hk, rfl, hO, hT, hl⟩ := hrel
    have hi0 : (0 : Int) ≤ (k : Int) := Int.natCast_nonneg _
    by_cases hlt : k < n
    · have hi1 : (k : Int) < (n : Int) := by omega
      by_cases hlt2 : k < M
      · have hi2 : (k : Int) < (M : Int) := by omega
        have hlt' : k < l.length := by rw [← HN.out]; exact hlt
        obtain ⟨g, o, rfl, c0', c1', c2', c3', c4'⟩ := rd_Five H.out k hlt'
        have c0 := hO.2.keeps c0'
        have c1 := hO.2.keeps c1'
        have c2 := hO.2.keeps c2'
        have c3 := hO.2.keeps c3'
        have c4 := hO.2.keeps c4'
        have hx := HK.out l[k] (List.getElem_mem _)
        clear c0' c1' c2' c3' c4'
        generalize l[k] = x at *
        obtain ⟨xa, xb, xc, xd, xe⟩ := x
        simp only at c0 c1 c2 c3 c4
        have HL := Lib.hid (fun w => tuple_law ⟨xa, xb, xc, xd, xe⟩ hx w)
        have HO := Lib.hid hO
        have HT := Lib.hid hT
        have HLN := Lib.hid hl
        clear hx hO hT hl
        go_wp2_with fail
        refine (HL.out _).mono ?_; rintro e w1 ⟨v1, l1, v2, l2, pa, pb, rfl, o1, o2, n1, n2, n3, n4⟩
        obtain ⟨a3, c5, rfl, _, _⟩ := o1.rd.shape
        obtain ⟨a4, c6, rfl, _, _⟩ := o2.rd.shape
        have hp : TsOk w (w1.alloc (.cells #[.slice a3 l1.length c5, .int .i64 pa, .int .i64 pb, .slice a4 l2.length c6] 32)) ⟨⟨a3, l1.length, c5, a4, l2.length, c6⟩, ⟨l1, l2⟩, pa, pb⟩ :=
          ⟨⟨o1.rd.ext ((Ext.refl _).alloc _ _), o2.rd.ext ((Ext.refl _).alloc _ _)⟩, ⟨(o1.off (by decide)).ext ((Ext.refl _).alloc _ _), (o2.off (by decide)).ext ((Ext.refl _).alloc _ _)⟩, n1, n2, n3, n4⟩
        have HP := Lib.hid hp
        have E1 := Lib.hid (show Ext wr (w1.alloc (.cells #[.slice a3 l1.length c5, .int .i64 pa, .int .i64 pb, .slice a4 l2.length c6] 32)) from o1.2.alloc _ _)
        clear hp o1 o2 n1 n2 n3 n4
        go_wp2_with (at_builtin; refine appG tT rfl _ _ rfl w _ ts rfl ?a1 _ [(⟨⟨a3, l1.length, c5, a4, l2.length, c6⟩, ⟨l1, l2⟩, pa, pb⟩ : TP)] rfl ?a2 ?a3 ?_; (have z1 := HO.out.ext E1.out; case a1 => exact z1); (have z2 := rd_litG w1 [(⟨⟨a3, l1.length, c5, a4, l2.length, c6⟩, ⟨l1, l2⟩, pa, pb⟩ : TP)] #[.slice a3 l1.length c5, .int .i64 pa, .int .i64 pb, .slice a4 l2.length c6] 32 _ 1 rfl rfl (by simp) rfl; case a2 => exact z2); (case a3 => have := HLN.out; simp; omega); intro v5 w5 hO5 hg5)
        go_roundw
        case rel => exact ⟨k + 1, _, by omega, by go_num, hO5, tu_next (HO.out.ext E1.out) (fun t ht => (HT.out t ht).ext E1.out) HP.out hg5, by rw [List.length_append, HLN.out]; rfl⟩
        case measure => simp [intOf]; omega
      · have hi2 : ¬ (k : Int) < (M : Int) := by omega
        go_wp2_with fail
        go_ret
        exact ⟨_, ts, rfl, hO, hT, by omega⟩
    · go_wp2_with fail
      go_ret
      exact ⟨_, ts, rfl, hO, hT, by omega⟩
end Go.Proofs.YtcankdikbnllkaaGreat
/- The reference's Equivalent; what the builder's tuples are. -/
namespace Go.Proofs.YtcankdikbnllkaaGreat
open Go.ChangeShapes Go.WideShapes Go.ChangeAt Go.RowKit

set_option maxHeartbeats 2000000 in
theorem equiv_ref (ps qs : List TP) (va vb : Value) (w : World) (ha : RdG w va ps) (hb : RdG w vb qs) (ia : RdTs w ps) (ib : RdTs w qs) (la : ps.length ≤ 400) (lb : qs.length ≤ 400) :
    Calls Tryz.prog 28 #[va, vb] w fun e w' => ∃ b : Bool, e = .returned (.bool b) ∧ (b = true ↔ EqvP (tus ps) (tus qs)) ∧ Ext w w' := by
  have HA := Lib.hid ha
  have HB := Lib.hid hb
  have IA := Lib.hid ia
  have IB := Lib.hid ib
  have LA := Lib.hid la
  have LB := Lib.hid lb
  clear ha hb ia ib la lb
  go_enter Tryz.func28, Tryz.ntmps28
  go_wp2_with fail
  refine (norm_ref9 ps va w HA.out IA.out LA.out).mono ?_; rintro e w1 ⟨v1, N, rfl, hO, hN, hf, hE⟩
  have HO := Lib.hid hO
  have HN := Lib.hid hN
  have HF := Lib.hid hf
  have HE := Lib.hid hE
  clear hO hN hf hE
  go_wp2_with fail
  refine (norm_ref9 qs vb w1 (HB.out.ext HE.out) (IB.out.ext HE.out) LB.out).mono ?_; rintro e w2 ⟨v2, M, rfl, hO2, hM, hf2, hE2⟩
  have HO2 := Lib.hid hO2
  have HM := Lib.hid hM
  have HF2 := Lib.hid hf2
  have HE2 := Lib.hid hE2
  clear hO2 hM hf2 hE2
  go_wp2_with fail
  refine (sameT_ref N M v1 v2 w2 (HO.out.ext HE2.out) HO2.out (HN.out.ext HE2.out) HM.out).mono ?_; rintro e w3 ⟨rfl, hE3⟩
  have HE3 := Lib.hid hE3
  clear hE3
  go_wp2_with fail
  go_ret
  refine ⟨_, rfl, ?_, (HE.out.trans HE2.out).trans HE3.out⟩
  unfold tuB
  rw [decide_eq_true_iff]
  exact nf_iff HF.out HF2.out
/-- what Tuples gives, «as» these proofs want it -/
def BlP (M : Nat) (w : World) (e : Ending) (w' : World) : Prop := ∃ (v : Value) (ts : List TP), e = .returned v ∧ OwnG tT.e w w' v ts ∧ RdTs w' ts ∧ SmT ts ∧ ts.length ≤ M
theorem built (M : Nat) (hM : M ≤ 30) (l : List Five) (v : Value) (w : World) (h : RdG w v l) (hok : ∀ x ∈ l, x.ok) : Calls Tryz.prog 26 #[v, .int .i64 M] w (BlP M w) :=
  (tuples_law M hM l v w h hok).mono fun _ _ ⟨v, ts, a, b, c, d⟩ => ⟨v, ts, a, b, fun t ht => (c t ht).1, fun t ht => by
    have := (c t ht).2.2
    omega, d⟩
theorem eqv_refl (l : List Tu) : EqvP l l := fun _ _ => rfl
end Go.Proofs.YtcankdikbnllkaaGreat
/- The laws' Pick. -/
namespace Go.Proofs.YtcankdikbnllkaaGreat
open Go.ChangeShapes Go.WideShapes Go.ChangeAt Go.RowKit

theorem pick_prg (i n : Nat) (w : World) (hi : i ≤ 1000000) (hn0 : 0 < n) (hn : n ≤ 1000000) : Calls Tryz.prog 29 #[.int .i64 i, .int .i64 n] w fun e w' => w = w' ∧ e = .returned (.int .i64 ((i % n : Nat) : Int)) := by
  obtain ⟨m, hm⟩ : ∃ m, m = i % n := ⟨_, rfl⟩
  have hmn : m < n := by rw [hm]; exact Nat.mod_lt _ hn0
  have t1 : Int.tmod (i : Int) (n : Int) = (m : Int) := by rw [Int.tmod_eq_emod_of_nonneg (by omega), hm]; simp
  have t1' : (i : Int) % (n : Int) = (m : Int) := by rw [hm]; simp
  have t2' : ((m : Int) + (n : Int)) % (n : Int) = (m : Int) := by
    rw [Int.add_emod_right]; exact Int.emod_eq_of_lt (by omega) (by omega)
  have t2 : Int.tmod ((m : Int) + (n : Int)) (n : Int) = (m : Int) := by rw [Int.tmod_eq_emod_of_nonneg (by omega)]; exact t2'
  have w1 := wrapI (m : Int) (by omega) (by omega)
  have w2 : wrap64 ((m : Int) + (n : Int)) = (m : Int) + (n : Int) := by unfold wrap64; omega
  have hne : ¬ ((n : Int) = 0) := by omega
  have hne2 : ((n : Int) == 0) = false := by simp; omega
  have hle : ¬ (n : Int) ≤ 0 := by omega
  rw [← hm]
  clear hm
  go_enter Tryz.func29, Tryz.ntmps29
  go_wp2_with fail
  go_ret
  exact ⟨rfl, rfl⟩
theorem pick_zero (i : Nat) (w : World) : Calls Tryz.prog 29 #[.int .i64 i, .int .i64 0] w fun e w' => w = w' ∧ e = .returned (.int .i64 0) := by
  go_enter Tryz.func29, Tryz.ntmps29
  go_wp2_with fail
  go_ret
  exact ⟨rfl, rfl⟩
end Go.Proofs.YtcankdikbnllkaaGreat
/- Slices of rows, of numbers and of five numbers, «as» arguments. -/
namespace Go.Proofs.YtcankdikbnllkaaGreat
open Go.ChangeShapes Go.WideShapes Go.ChangeAt Go.RowKit Go.Joins

section
variable {H : Type} {enc : TypeId × Value → H} {w : World} {base : Nat} {held : Bool}
theorem el8_I (fuel : Nat) (cs : List Value) (y : DataW H × List MemPlace) (h : DataW.trod enc Tryz.prog w base (fun _ => true) held fuel 3 cs = some y) : ∃ x : Int, cs = Enc.cells x ∧ True := by
  obtain ⟨a, e, _, _⟩ := DataW.trod_int Tryz.underlying3 h
  exact ⟨a, e, trivial⟩
set_option maxRecDepth 100000 in
theorem el8_V (fuel : Nat) (cs : List Value) (y : DataW H × List MemPlace) (hl : cs.length = 3) (h : DataW.trod enc Tryz.prog w base (fun _ => true) held fuel 57 cs = some y) : ∃ x : V, cs = Enc.cells x ∧ True := by
  obtain ⟨xs, k, _, _, _, hxl, hff⟩ := DataW.trod_struct Tryz.underlying57 h
  have hxl3 : xs.length = 3 := hxl
  match cs, hl with
  | [v0, v1, v2], _ =>
    have g0 := hff 0 _ rfl
    have g1 := hff 1 _ rfl
    have g2 := hff 2 _ rfl
    obtain ⟨y0, q0⟩ : ∃ y, xs[0]? = some y := ⟨_, List.getElem?_eq_getElem (by omega)⟩
    obtain ⟨y1, q1⟩ : ∃ y, xs[1]? = some y := ⟨_, List.getElem?_eq_getElem (by omega)⟩
    obtain ⟨y2, q2⟩ : ∃ y, xs[2]? = some y := ⟨_, List.getElem?_eq_getElem (by omega)⟩
    rw [q0] at g0
    rw [q1] at g1
    rw [q2] at g2
    have k0 : Tryz.prog.cellsOf 3 = 1 := by kernel_rfl
    have k1 : Tryz.prog.cellsOf 2 = 1 := by kernel_rfl
    have k2 : Tryz.prog.cellsOf 9 = 1 := by kernel_rfl
    have h0' : DataW.trod enc Tryz.prog w base (fun _ => true) held k 3 (([v0, v1, v2].drop 0).take (Tryz.prog.cellsOf 3)) = some y0 := g0
    rw [k0] at h0'
    have p0 : DataW.trod enc Tryz.prog w base (fun _ => true) held k 3 [v0] = some y0 := h0'
    have h1' : DataW.trod enc Tryz.prog w base (fun _ => true) held k 2 (([v0, v1, v2].drop 1).take (Tryz.prog.cellsOf 2)) = some y1 := g1
    rw [k1] at h1'
    have p1 : DataW.trod enc Tryz.prog w base (fun _ => true) held k 2 [v1] = some y1 := h1'
    have h2' : DataW.trod enc Tryz.prog w base (fun _ => true) held k 9 (([v0, v1, v2].drop 2).take (Tryz.prog.cellsOf 9)) = some y2 := g2
    rw [k2] at h2'
    have p2 : DataW.trod enc Tryz.prog w base (fun _ => true) held k 9 [v2] = some y2 := h2'
    obtain ⟨z0, f0, _, _⟩ := DataW.trod_int Tryz.underlying3 p0
    obtain ⟨z1, f1, _, _⟩ := DataW.trod_int Tryz.underlying2 p1
    obtain ⟨z2, f2, _, _⟩ := DataW.trod_string Tryz.underlying9 p2
    obtain rfl := List.cons.inj f0 |>.1
    obtain rfl := List.cons.inj f1 |>.1
    obtain rfl := List.cons.inj f2 |>.1
    exact ⟨⟨z0, z1, z2.data.toList⟩, by simp [Enc.cells], trivial⟩
set_option maxRecDepth 100000 in
theorem el8_P (fuel : Nat) (cs : List Value) (y : DataW H × List MemPlace) (hl : cs.length = 2) (h : DataW.trod enc Tryz.prog w base (fun _ => true) held fuel 53 cs = some y) : ∃ x : P, cs = Enc.cells x ∧ RdRow w x := by
  obtain ⟨xs, k, _, _, _, hxl, hff⟩ := DataW.trod_struct Tryz.underlying53 h
  have hxl2 : xs.length = 2 := hxl
  match cs, hl with
  | [v0, v1], _ =>
    have g0 := hff 0 _ rfl
    have g1 := hff 1 _ rfl
    obtain ⟨y0, q0⟩ : ∃ y, xs[0]? = some y := ⟨_, List.getElem?_eq_getElem (by omega)⟩
    obtain ⟨y1, q1⟩ : ∃ y, xs[1]? = some y := ⟨_, List.getElem?_eq_getElem (by omega)⟩
    rw [q0] at g0
    rw [q1] at g1
    have k0 : Tryz.prog.cellsOf 29 = 1 := by kernel_rfl
    have k1 : Tryz.prog.cellsOf 30 = 1 := by kernel_rfl
    have h0' : DataW.trod enc Tryz.prog w base (fun _ => true) held k 29 (([v0, v1].drop 0).take (Tryz.prog.cellsOf 29)) = some y0 := g0
    rw [k0] at h0'
    have p0 : DataW.trod enc Tryz.prog w base (fun _ => true) held k 29 [v0] = some y0 := h0'
    have h1' : DataW.trod enc Tryz.prog w base (fun _ => true) held k 30 (([v0, v1].drop 1).take (Tryz.prog.cellsOf 30)) = some y1 := g1
    rw [k1] at h1'
    have p1 : DataW.trod enc Tryz.prog w base (fun _ => true) held k 30 [v1] = some y1 := h1'
    obtain ⟨u0, l0, f0, r0, _⟩ := open_GT (fun _ : V => True) Tryz.underlying29 (by kernel_rfl) (fun f cs y hl => el8_V f cs y hl) p0
    obtain ⟨u1, l1, f1, r1, _⟩ := open_GT (fun _ : Int => True) Tryz.underlying30 (by kernel_rfl) (fun f cs y _ => el8_I f cs y) p1
    obtain rfl := List.cons.inj f0 |>.1
    obtain rfl := List.cons.inj f1 |>.1
    obtain ⟨a0, c0, rfl, _, _⟩ := r0.shape
    obtain ⟨a1, c1, rfl, _, _⟩ := r1.shape
    exact ⟨⟨⟨a0, l0.length, c0, a1, l1.length, c1⟩, ⟨l0, l1⟩⟩, rfl, r0, r1⟩
set_option maxRecDepth 100000 in
theorem el8_F (fuel : Nat) (cs : List Value) (y : DataW H × List MemPlace) (hl : cs.length = 5) (h : DataW.trod enc Tryz.prog w base (fun _ => true) held fuel 69 cs = some y) : ∃ x : Five, cs = Enc.cells x ∧ x.ok := by
  obtain ⟨xs, k, _, _, _, hxl, hff⟩ := DataW.trod_array Tryz.underlying69 h
  have k0 : Tryz.prog.cellsOf 47 = 1 := by kernel_rfl
  rw [k0] at hff
  match cs, hl with
  | [v0, v1, v2, v3, v4], _ =>
    have one : ∀ i v, i < 5 → (([v0, v1, v2, v3, v4].drop (i * 1)).take 1) = [v] → ∃ z : Int, v = .int .u16 z ∧ 0 ≤ z ∧ z ≤ 65535 := by
      intro i v hi hv
      have g := hff i hi
      rw [hv] at g
      obtain ⟨yy, q⟩ : ∃ y, xs[i]? = some y := ⟨_, List.getElem?_eq_getElem (by omega)⟩
      rw [q] at g
      obtain ⟨z, f, _, wz⟩ := DataW.trod_int Tryz.underlying47 g
      have h1 : IntKind.u16.min = 0 := by decide
      have h2 : IntKind.u16.max = 65535 := by decide
      simp [Lit.wf] at wz
      exact ⟨z, (List.cons.inj f).1, by omega, by omega⟩
    obtain ⟨z0, rfl, b0⟩ := one 0 _ (by decide) rfl
    obtain ⟨z1, rfl, b1⟩ := one 1 _ (by decide) rfl
    obtain ⟨z2, rfl, b2⟩ := one 2 _ (by decide) rfl
    obtain ⟨z3, rfl, b3⟩ := one 3 _ (by decide) rfl
    obtain ⟨z4, rfl, b4⟩ := one 4 _ (by decide) rfl
    exact ⟨⟨z0, z1, z2, z3, z4⟩, rfl, b0, b1, b2, b3, b4⟩
set_option maxRecDepth 100000 in
theorem open_rows {r : Reach} {b0 : Nat} {v : Value} {d : DataW H} {p : List MemPlace} (hv : Value.okWide Tryz.prog w r b0 27 v) (h : DataW.Trod enc Tryz.prog w base (fun _ => true) held 27 v d p) : ∃ l : List P, RdG w v l ∧ RdAll w l :=
  open_G (RdRow w) Tryz.underlying27 (by kernel_rfl) (fun f cs y hl => el8_P f cs y hl) hv h
set_option maxRecDepth 100000 in
theorem open_nums {r : Reach} {b0 : Nat} {v : Value} {d : DataW H} {p : List MemPlace} (hv : Value.okWide Tryz.prog w r b0 30 v) (h : DataW.Trod enc Tryz.prog w base (fun _ => true) held 30 v d p) : ∃ l : List Int, RdG w v l :=
  let ⟨l, h1, _⟩ := open_G (fun _ : Int => True) Tryz.underlying30 (by kernel_rfl) (fun f cs y _ => el8_I f cs y) hv h
  ⟨l, h1⟩
set_option maxRecDepth 100000 in
theorem open_fives {r : Reach} {b0 : Nat} {v : Value} {d : DataW H} {p : List MemPlace} (hv : Value.okWide Tryz.prog w r b0 42 v) (h : DataW.Trod enc Tryz.prog w base (fun _ => true) held 42 v d p) : ∃ l : List Five, RdG w v l ∧ ∀ x ∈ l, x.ok :=
  open_G Five.ok Tryz.underlying42 (by kernel_rfl) (fun f cs y hl => el8_F f cs y hl) hv h
end
end Go.Proofs.YtcankdikbnllkaaGreat
