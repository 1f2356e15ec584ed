/- Checking a query, of the program: checkNodes, Check. -/
import Derived.Test.YtbplapkcleipiaaGreatDoorZz04
import Derived.Test.YtbplapkcleipiaaGreatDoorZz09
import Derived.Test.YtbplapkcleipiaaGreatDoorZz19
namespace Go.Proofs.YtbplapkcleipiaaGreatDoor
open Go.ChangeShapes Go.WideShapes Go.ChangeAt Go.RowKit

theorem set_grw (w : World) (b o : Nat) (v : Value) : Grw w (w.setCell ⟨b, o, none⟩ v) (some b) :=
  ⟨rfl, rfl, by simp [World.setCell], fun k _ hn => Below.heap_setCell _ _ _ _ (by show k ≠ b; exact fun e => hn (by rw [e]))⟩
/-- a block of the call's own with these cells -/
def Bxn (b : Nat) (l : List Value) (w : World) : Prop := b < w.heap.size ∧ ∀ j v, l[j]? = some v → w.cell? ⟨b, j, none⟩ = some v ∧ w.frozen? ⟨b, j, none⟩ = false
theorem Bxn.ext {b : Nat} {l : List Value} {w w' : World} (h : Bxn b l w) (e : Ext w w') : Bxn b l w' :=
  ⟨Nat.lt_of_lt_of_le h.1 e.2.2, fun j v hj => ⟨e.keeps (h.2 j v hj).1, (e.2.1 _ h.1).trans (h.2 j v hj).2⟩⟩
theorem Bxn.out {b : Nat} {l : List Value} {w w' : World} {row : Option Nat} (h : Bxn b l w) (g : w.grownBy w' row) (hr : ∀ k, row = some k → k ≠ b) : Bxn b l w' :=
  ⟨Nat.lt_of_lt_of_le h.1 g.size, fun j v hj => ⟨grow_cell g (h.2 j v hj).1 hr, grow_frozen g h.1 (h.2 j v hj).2 hr⟩⟩
theorem Bxn.set {b : Nat} {l : List Value} {w : World} (h : Bxn b l w) (i : Nat) (u : Value) : Bxn b (l.set i u) (w.setCell ⟨b, i, none⟩ u) := by
  refine ⟨by simpa [World.setCell] using h.1, fun j v hj => ?_⟩
  by_cases hij : i = j
  · subst hij
    have hl : i < l.length := by have := (List.getElem?_eq_some_iff.1 hj).1; simpa using this
    rw [List.getElem?_set_self hl] at hj
    injection hj with hj
    subst hj
    obtain ⟨h1, h2⟩ := h.2 i l[i] (List.getElem?_eq_getElem hl)
    exact ⟨World.cell?_setCell_same _ _ _ h1, by rw [World.frozen?_setCell]; exact h2⟩
  · rw [List.getElem?_set_ne hij] at hj
    obtain ⟨h1, h2⟩ := h.2 j v hj
    exact ⟨by rw [World.cell?_setCell_other _ _ _ _ (by intro e; injection e with _ e; exact hij e)]; exact h1, by rw [World.frozen?_setCell]; exact h2⟩
theorem Bxn.new (w : World) (c : Array Value) (t : TypeId) : Bxn w.heap.size c.toList (w.alloc (.cells c t)) :=
  ⟨by simp, fun j v hj => ⟨al_c w c t j v (by rw [← Array.getElem?_toList]; exact hj), by rw [frozen?_alloc_cells]; exact frozen_new w _ _ (Nat.le_refl _)⟩⟩
theorem OwnS.grw {α : Type} {rel : (Nat → Prop) → World → Value → List α → Prop} (H : RelOk rel) {e : TypeId} {S : Nat → Prop} {W w w' : World} {v : Value} {ls : List (List α)} {b : Nat} (h : OwnS e rel S W w v ls) (k : Grw w w' (some b)) (hb : W.heap.size ≤ b) (hv : ∀ g, v.ownBlock = some g → g ≠ b)
    (hS : ∀ g, S g → g ≠ b) : OwnS e rel S W w' v ls := by
  obtain ⟨qs, h1, h2, h3⟩ := h
  refine ⟨qs, ⟨owns_grw h1.1 k (.inr fun e => hv b e rfl), ext_grw h1.2 k fun g hg => by injection hg with hg; omega⟩, fun q hq => ?_, h3⟩
  exact H.out (h2 q hq) k fun g hg e => hS g hg.1 (by injection e)
theorem rd_Nd {w : World} {ad : Option Addr} {n cap : Nat} {ns : List Nd} (h : RdN w (.slice ad n cap) ns) (i : Nat) (hi : i < ns.length) :
    ∃ g o h, ad = some ⟨g, o, none⟩ ∧ (∀ j v, (Enc.cells (⟨h, ns[i]⟩ : NdP))[j]? = some v → w.cell? ⟨g, o + i * 7 + j, none⟩ = some v) ∧ RdNd w ⟨h, ns[i]⟩ := by
  obtain ⟨qs, h1, h2, rfl⟩ := h
  have hi' : i < qs.length := by simpa using hi
  obtain ⟨g, o, e, c⟩ := h1.at i hi'
  have hr := h2 qs[i] (List.getElem_mem _)
  simp only [List.getElem_map]
  exact ⟨g, o, qs[i].h, e, c, hr⟩
theorem RdN.shape {w : World} {v : Value} {ns : List Nd} (h : RdN w v ns) : ∃ ad cap, v = .slice ad ns.length cap ∧ ns.length ≤ cap ∧ cap ≤ maxLen := by
  obtain ⟨qs, h1, h2, rfl⟩ := h
  rw [List.length_map]; exact h1.shape
theorem RdN.ext {w w' : World} {v : Value} {ns : List Nd} (h : RdN w v ns) (e : Ext w w') : RdN w' v ns := by
  obtain ⟨qs, h1, h2, h3⟩ := h
  exact ⟨qs, h1.ext e, fun q hq => ⟨(h2 q hq).1.ext e, (h2 q hq).2.ext e⟩, h3⟩
theorem chkN_len (es : List X) (ts : List Tt) (n : Nd) (done : List (List Int)) : (chkN es ts n done).1.length ≤ 64 := by
  unfold chkN
  split
  · simp
  · split
    · simp
    · unfold wdC
      split
      · simp
      · split
        · simp
        · rename_i h4; omega
/-- while nodes are checked -/
def CnR (S : Nat → Prop) (W0 : World) (cb : Nat) (es : List X) (ts : List Tt) (ns : List Nd) (ve vt : Value) (i : Value) (wr : World) : Prop :=
  ∃ (k : Nat) (done : List (List Int)) (vc : Value), k ≤ ns.length ∧ i = .int .i64 k ∧ done.length = k ∧ colsQ es ts ns [] = colsQ es ts (ns.drop k) done ∧ OwnS tC.e RdI (fun g => S g ∧ g ≠ cb) W0 wr vc done ∧ (∀ g, vc.ownBlock = some g → g ≠ cb) ∧ Bxn cb [ve, vt, vc] wr ∧ ∀ c ∈ done, c.length ≤ 64
/-- what is handed back: the columns of all nodes, an error -/
def CqP (S : Nat → Prop) (w : World) (c : List (List Int) × Int) (e : Ending) (w' : World) : Prop := ∃ v, e = .returned (.tuple #[v, .int .i64 c.2]) ∧ RdS RdI S w' v c.1 ∧ Ext w w'
theorem CqP.err (S : Nat → Prop) {w w' : World} {c : List (List Int) × Int} {n : Int} (h : c = ([], n)) (hE : Ext w w') : CqP S w c (.returned (.tuple #[.slice none 0 0, .int .i64 n])) w' := by
  subst h; exact ⟨_, rfl, ⟨[], rdG_nil _, fun q hq => (by cases hq), rfl⟩, hE⟩
theorem RdS.mono {α : Type} {rel : (Nat → Prop) → World → Value → List α → Prop} (H : RelOk rel) {S S' : Nat → Prop} {w : World} {v : Value} {ls : List (List α)} (h : RdS rel S w v ls) (k : ∀ g, g < w.heap.size → S g → S' g) : RdS rel S' w v ls := by
  obtain ⟨qs, h1, h2, h3⟩ := h
  exact ⟨qs, h1, fun q hq => H.mono (h2 q hq) k, h3⟩
set_option maxHeartbeats 8000000 in
set_option maxRecDepth 100000 in
theorem ckQ_prg (S : Nat → Prop) (es : List X) (ns : List Nd) (ts : List Tt) (vn ve vt : Value) (w : World) (hn : RdN w vn ns) (hl : RdG w ve es) (ht : RdT S w vt ts) (hU : Up S w) (hs : ∀ n ∈ ns, n.ex.length ≤ 1000000 ∧ n.ag.length ≤ 1000000) :
    Calls Tryz.prog 28 #[.agg #[vn, ve], vt] w (CqP S w (colQ es ts ns)) := by
  obtain ⟨nd, ncap, rfl, ln1, ln2⟩ := hn.shape
  obtain ⟨ad, cap, rfl, le1, le2⟩ := hl.shape
  obtain ⟨td, tcap, rfl, _, _⟩ := ht.shape
  have HN := Lib.hid hn
  have HCK := Lib.hid (fun (S' : Nat → Prop) (done : List (List Int)) (x : Nd) (h : Hd) vc w' (hE : Ext w w') (hS : ∀ g, g < w.heap.size → S g → S' g) (hU' : Up S' w') (hd : RdS RdI S' w' vc done) (hx : RdNd w' ⟨h, x⟩) (h1 : x.ex.length ≤ 1000000) (h2 : x.ag.length ≤ 1000000) (h3 : ∀ c ∈ done, c.length ≤ 1000) =>
    chkN_prg S' es ts done x h _ _ vc w' (hl.ext hE) ((ht.mono hS).ext hE) hd hx hU' h1 h2 h3)
  have HS := Lib.hid hs
  have HU := Lib.hid hU
  have hq : colQ es ts ns = if ns.length = 0 ∨ 40 < ns.length ∨ 200 < es.length then ([], 4) else colsQ es ts ns [] := rfl
  obtain ⟨q, hqe⟩ : ∃ q, q = colQ es ts ns := ⟨_, rfl⟩
  rw [← hqe] at hq ⊢
  clear hn hl ht hs hU hqe
  obtain ⟨n, hn⟩ : ∃ n, n = es.length := ⟨_, rfl⟩
  obtain ⟨m, hm⟩ : ∃ m, m = ts.length := ⟨_, rfl⟩
  obtain ⟨r, hr⟩ : ∃ r, r = ns.length := ⟨_, rfl⟩
  have HR := Lib.hid hr
  rw [← hn] at HCK hq le1 ⊢
  rw [← hm] at HCK ⊢
  rw [← hr] at HN hq ln1 ⊢
  clear hn hm hr
  unfold maxLen at ln2 le2
  by_cases hbad : r = 0 ∨ 40 < r ∨ 200 < n
  · rw [if_pos hbad] at hq
    have HQ := Lib.hid hq
    clear hq
    rcases (show r = 0 ∨ (¬ r = 0 ∧ 40 < (r : Int)) ∨ (¬ r = 0 ∧ (r : Int) ≤ 40 ∧ 200 < (n : Int)) by omega) with h | ⟨h0, h1⟩ | ⟨h0, h1, h2⟩
    · subst h
      clear hbad
      go_enter Tryz.func28, Tryz.ntmps28
      go_wp2_with fail
      go_ret2
      exact CqP.err S HQ.out ((Ext.refl _).alloc _ _)
    · have e0 : ((r : Int) == 0) = false := by simp; omega
      clear hbad
      go_enter Tryz.func28, Tryz.ntmps28
      go_wp2_with fail
      go_ret2
      exact CqP.err S HQ.out ((Ext.refl _).alloc _ _)
    · have e0 : ((r : Int) == 0) = false := by simp; omega
      clear hbad
      go_enter Tryz.func28, Tryz.ntmps28
      go_wp2_with fail
      go_ret2
      exact CqP.err S HQ.out ((Ext.refl _).alloc _ _)
  · rw [if_neg hbad] at hq
    have HQ := Lib.hid hq
    have h0 : ¬ r = 0 := by omega
    have h1 : (r : Int) ≤ 40 := by omega
    have h2 : (n : Int) ≤ 200 := by omega
    have e0 : ((r : Int) == 0) = false := by simp; omega
    clear hbad hq
    obtain ⟨w0, hw0⟩ : ∃ w0, w0 = w.alloc (.cells #[.slice nd r ncap, .slice ad n cap] 26) := ⟨_, rfl⟩
    have HW0 := Lib.hid hw0
    have hb0 : w0.cell? ⟨w.heap.size, 0, none⟩ = some (.slice nd r ncap) := by rw [hw0]; exact al0 _ _ _ _
    have hb1 : w0.cell? ⟨w.heap.size, 1, none⟩ = some (.slice ad n cap) := by rw [hw0]; exact al1 _ _ _ _
    have EX := Lib.hid (show Ext w w0 by rw [hw0]; exact (Ext.refl _).alloc _ _)
    have hsz : w0.heap.size = w.heap.size + 1 := by rw [hw0]; simp
    have HSZ := Lib.hid hsz
    have HBX := Lib.hid (show Bxn (w.heap.size + 1) [.slice ad n cap, .slice td m tcap, .slice none 0 0] (w0.alloc (.cells #[.slice ad n cap, .slice td m tcap, .slice none 0 0] 108)) by rw [← hsz]; exact Bxn.new w0 _ _)
    clear hw0 hsz
    go_enter Tryz.func28, Tryz.ntmps28
    go_wp2_with fail
    rw [← HW0.out]
    go_loopw [34] (CnR S w0 (w.heap.size + 1) es ts ns (.slice ad n cap) (.slice td m tcap)) (fun i _ => r - (intOf i).toNat)
    case atStart => exact ⟨0, [], .slice none 0 0, Nat.zero_le _, rfl, rfl, by rw [List.drop_zero], OwnS.nil _ _ _ _ _ ((Ext.refl _).alloc _ _), (fun g h => by cases h), HBX.out, by simp⟩
    case round =>
      obtain ⟨k, done, vc, hk, rfl, hdl, hcq, hO, hvc, hB, hlen⟩ := hrel
      have hkr : k ≤ r := by rw [HR.out]; exact hk
      have hE := hO.old
      have f0 := hE.keeps hb0
      have f1 := hE.keeps hb1
      have HEw := Lib.hid (EX.out.trans hE)
      obtain ⟨va, vcap, rfl, hv1, hv2⟩ := hO.rd.shape
      rw [hdl] at hv1 hO hvc hB
      have c0 := (hB.2 0 _ rfl).1
      have c1 := (hB.2 1 _ rfl).1
      have c2 := (hB.2 2 _ rfl).1
      have hsb := hB.1
      have s0 : w.heap.size < wr.heap.size := by omega
      have HB := Lib.hid hB
      have HO := Lib.hid hO
      have HVC := Lib.hid hvc
      have HDL := Lib.hid hdl
      have HLN := Lib.hid hlen
      have HCQ := Lib.hid hcq
      clear hB hO hvc hdl hlen hcq hE
      unfold maxLen at hv2
      by_cases hlt : k < r
      · have hlt' : k < ns.length := by rw [← HR.out]; exact hlt
        obtain ⟨g, o, h, rfl, hc, hx⟩ := rd_Nd HN.out k hlt'
        have hsx := HS.out ns[k] (List.getElem_mem _)
        have hdrop : ns.drop k = ns[k] :: ns.drop (k + 1) := List.drop_eq_getElem_cons hlt'
        generalize ns[k] = x at *
        obtain ⟨xa, xn, xc, xb, xm, xd⟩ := h
        obtain ⟨nk, na, nb, np, nsx, ex, ag⟩ := x
        have d0 := HEw.out.keeps (hc 0 _ rfl)
        have d1 := HEw.out.keeps (hc 1 _ rfl)
        have d2 := HEw.out.keeps (hc 2 _ rfl)
        have d3 := HEw.out.keeps (hc 3 _ rfl)
        have d4 := HEw.out.keeps (hc 4 _ rfl)
        have d5 := HEw.out.keeps (hc 5 _ rfl)
        have d6 := HEw.out.keeps (hc 6 _ rfl)
        simp only [Nat.add_zero] at d0 d1 d2 d3 d4 d5 d6
        have hstep : colsQ es ts (⟨nk, na, nb, np, nsx, ex, ag⟩ :: ns.drop (k + 1)) done = if (chkN es ts ⟨nk, na, nb, np, nsx, ex, ag⟩ done).2 ≠ 0 then ([], (chkN es ts ⟨nk, na, nb, np, nsx, ex, ag⟩ done).2) else colsQ es ts (ns.drop (k + 1)) (done ++ [(chkN es ts ⟨nk, na, nb, np, nsx, ex, ag⟩ done).1]) := rfl
        have hck := fun w' (hE : Ext wr w') => HCK.out (fun g => (S g ∧ g ≠ w.heap.size + 1) ∧ some g ≠ (Value.slice va k vcap).ownBlock) done ⟨nk, na, nb, np, nsx, ex, ag⟩ ⟨xa, xn, xc, xb, xm, xd⟩ _ w' (HEw.out.trans hE)
          (fun g hg hs => ⟨⟨hs, by omega⟩, (HO.out.avoid g (by have := HSZ.out; omega) ⟨hs, by omega⟩).2⟩)
          ((HO.out.up (fun g hg => ⟨(HU.out.ext HEw.out) g hg, by omega⟩)).ext hE) ((HO.out.rd.ext rdI_ok) hE) ⟨hx.1.ext (HEw.out.trans hE), hx.2.ext (HEw.out.trans hE)⟩ hsx.1 hsx.2 (fun c hc => by have := HLN.out c hc; omega)
        have hcl := chkN_len es ts ⟨nk, na, nb, np, nsx, ex, ag⟩ done
        have HD := Lib.hid hdrop
        generalize chkN es ts ⟨nk, na, nb, np, nsx, ex, ag⟩ done = z at hck hstep hcl
        obtain ⟨zc, ze⟩ := z
        simp only at hstep hcl
        have HCK1 := Lib.hid hck
        have HCL := Lib.hid hcl
        clear hck hcl hx hc hsx hdrop
        by_cases he : ze = 0
        · subst he
          rw [if_neg (by simp)] at hstep
          have HST := Lib.hid hstep
          have HE1 := Lib.hid (show Ext wr (wr.alloc (.cells #[.int .i64 nk, .int .i64 na, .int .i64 nb, .int .i64 np, sv nsx, .slice xa xn xc, .slice xb xm xd] 45)) from (Ext.refl wr).alloc _ _)
          have HXX := Lib.hid (show ∀ e w', CoP (fun g => (S g ∧ g ≠ w.heap.size + 1) ∧ some g ≠ (Value.slice va k vcap).ownBlock) (wr.alloc (.cells #[.int .i64 nk, .int .i64 na, .int .i64 nb, .int .i64 np, sv nsx, .slice xa xn xc, .slice xb xm xd] 45)) (zc, 0) e w' → ∃ a c, e = .returned (.tuple #[.slice a zc.length c, .int .i64 0]) ∧ RdI (fun g => (S g ∧ g ≠ w.heap.size + 1) ∧ some g ≠ (Value.slice va k vcap).ownBlock) w' (.slice a zc.length c) zc ∧ Ext wr w' by
            rintro e w' ⟨v, rfl, hr, hE⟩
            obtain ⟨a, c, rfl⟩ := rdI_ok.shape hr
            exact ⟨a, c, rfl, hr, HE1.out.trans hE⟩)
          clear hstep
          obtain ⟨zn, hzn⟩ : ∃ zn, zn = zc.length := ⟨_, rfl⟩
          rw [← hzn] at HXX
          clear hzn
          go_wp2_with fail
          refine ((HCK1.out _ HE1.out).mono HXX.out).mono ?_; rintro e w2 ⟨za, zp, rfl, hri, hE2⟩
          have HB2 := Lib.hid (HB.out.ext hE2)
          have b2 := (HB2.out.2 2 _ rfl).1
          have b2f := (HB2.out.2 2 _ rfl).2
          have s2 := HB2.out.1
          obtain ⟨qs, hq1, hq2, hq3⟩ := HO.out
          have HL3 := Lib.hid (show Ext wr (w2.alloc (.cells #[.slice za zn zp] 41)) from hE2.alloc _ _)
          have HQ1 := Lib.hid (hq1.ext HL3.out)
          have HQ2 := Lib.hid (fun p hp => rdI_ok.ext (hq2 p hp) HL3.out)
          have HRI := Lib.hid (rdI_ok.ext hri ((Ext.refl w2).alloc #[.slice za zn zp] 41))
          have HQL := Lib.hid (show qs.length ≤ 1000000 by have e1 := congrArg List.length hq3; rw [List.length_map, HDL.out] at e1; omega)
          have HQ3 := Lib.hid hq3
          have HE2 := Lib.hid hE2
          clear hq1 hq2 hq3 hri hE2 c0 c1 c2
          go_wp2_with (at_builtin; refine appGL tC rfl _ _ rfl w0 _ qs rfl HQ1.out _ [⟨za, zn, zp, zc⟩] rfl (rd_litG w2 [(⟨za, zn, zp, zc⟩ : Sl Int)] #[.slice za zn zp] 41 _ 1 rfl rfl (by simp) rfl) (by have := HQL.out; simp; omega) ?_; intro v' w' hO' hg' hl'; obtain ⟨va', ln', vcap', rfl⟩ : ∃ va' ln' vcap', v' = .slice va' ln' vcap' := (by obtain ⟨a, b, e, _⟩ := hO'.rd.shape; exact ⟨a, _, b, e⟩); have hBx := (HB2.out.ext ((Ext.refl w2).alloc #[.slice za zn zp] 41)).out hg' HVC.out; have g2 := (hBx.2 2 _ rfl).1; have g2f := (hBx.2 2 _ rfl).2; have gs := hBx.1; have HBx := Lib.hid hBx; clear hBx)
          go_roundw
          case rel =>
            refine ⟨k + 1, done ++ [zc], .slice va' ln' vcap', hlt', by go_num, by rw [List.length_append, HDL.out]; rfl, ?_, ?_, ?_, HBx.out.set 2 _, ?_⟩
            · rw [HCQ.out, HD.out, HST.out]
            · have hm := OwnS.more (S := fun g => S g ∧ g ≠ w.heap.size + 1) rdI_ok (q := (⟨za, zn, zp, zc⟩ : Sl Int)) HQ2.out HRI.out hO' hg' hl'
              rw [HQ3.out] at hm
              refine hm.grw rdI_ok (set_grw _ _ _ _) (by have := HSZ.out; omega) ?_ (fun g hg => hg.2)
              intro g hg
              rcases hl' with hl' | ⟨g', hg2, hle⟩
              · exact HVC.out g (by have e := hl'.symm.trans hg; exact e)
              · rw [hg2] at hg; injection hg with hg; subst hg
                simp at hle; omega
            · intro g hg
              rcases hl' with hl' | ⟨g', hg2, hle⟩
              · exact HVC.out g (by have e := hl'.symm.trans hg; exact e)
              · rw [hg2] at hg; injection hg with hg; subst hg
                simp at hle; omega
            · intro c hc
              rcases List.mem_append.1 hc with hc | hc
              · exact HLN.out c hc
              · simp only [List.mem_singleton] at hc; subst hc; exact HCL.out
          case measure => simp [intOf]; omega
        · rw [if_pos (by simpa using he)] at hstep
          have HST := Lib.hid (show q = ([], ze) by rw [HQ.out, HCQ.out, HD.out, hstep])
          have he' : (ze == 0) = false := by simpa using he
          clear hstep he
          go_wp2_with fail
          refine (HCK1.out _ ((Ext.refl wr).alloc _ _)).mono ?_; rintro e w2 ⟨v, rfl, hri, hE2⟩
          go_wp2_with fail
          go_ret2
          exact CqP.err S HST.out (HEw.out.trans (((Ext.refl wr).alloc _ _).trans hE2))
      · have hke : ns.drop k = [] := List.drop_of_length_le (by have := HR.out; omega)
        have HST := Lib.hid (show q = (done, 0) by rw [HQ.out, HCQ.out, hke]; rfl)
        clear hke
        go_wp2_with fail
        go_ret2
        rw [HST.out]
        exact ⟨_, rfl, HO.out.rd.mono rdI_ok (fun g _ hs => hs.1.1), HEw.out⟩
end Go.Proofs.YtbplapkcleipiaaGreatDoor
/- Small functions of the program's and of the reference's evaluation. -/
namespace Go.Proofs.YtbplapkcleipiaaGreatDoor
open Go.ChangeShapes Go.WideShapes Go.ChangeAt Go.RowKit

theorem ret_vv {a b : V} (h : a = b) : Ending.returned (vv a) = .returned (vv b) := by rw [h]
theorem ret_nb {z : Int} {b c : Bool} (h : b = c) : Ending.returned (.tuple #[.int .i64 z, .bool b]) = .returned (.tuple #[.int .i64 z, .bool c]) := by rw [h]
theorem add_prg (a b : Int) (ha : okN a) (hb : okN b) (w : World) : Calls Tryz.prog 164 #[.int .i64 a, .int .i64 b] w fun e w' => e = .returned (.tuple #[.int .i64 (wrap64 (a + b)), .bool (fitB (a + b))]) ∧ w = w' := by
  have H := Lib.hid (fits_add a b ha hb)
  go_enter Tryz.func164, Tryz.ntmps164
  go_wp2
  go_ret2
  exact ⟨ret_nb H.out, rfl⟩
theorem sub_prg (a b : Int) (ha : okN a) (hb : okN b) (w : World) : Calls Tryz.prog 165 #[.int .i64 a, .int .i64 b] w fun e w' => e = .returned (.tuple #[.int .i64 (wrap64 (a - b)), .bool (fitB (a - b))]) ∧ w = w' := by
  have H := Lib.hid (fits_sub a b ha hb)
  go_enter Tryz.func165, Tryz.ntmps165
  go_wp2
  go_ret2
  exact ⟨ret_nb H.out, rfl⟩
set_option maxHeartbeats 1000000 in
theorem mul_prg (a b : Int) (ha : okN a) (hb : okN b) (w : World) : Calls Tryz.prog 166 #[.int .i64 a, .int .i64 b] w fun e w' => e = .returned (.tuple #[.int .i64 (wrap64 (a * b)), .bool (fitB (a * b))]) ∧ w = w' := by
  by_cases h0 : b = 0
  · subst h0
    have e1 : wrap64 (a * 0) = 0 := by rw [Int.mul_zero]; unfold wrap64; omega
    have e2 : fitB (a * 0) = true := by rw [Int.mul_zero]; decide
    rw [e1, e2]
    clear e1 e2
    go_enter Tryz.func166, Tryz.ntmps166
    go_wp2
    go_ret2
    exact ⟨rfl, rfl⟩
  · have h0' : (b == 0) = false := by simpa using h0
    have hf := fits_mul a b ha hb h0
    by_cases h1 : wrap64 ((wrap64 (a * b)).tdiv b) = a
    · by_cases h2 : a = -9223372036854775808
      · by_cases h3 : b = -1
        · have H := Lib.hid (show fitB (a * b) = false by
            cases h : fitB (a * b) with
            | false => rfl
            | true => exact absurd ⟨h2, h3⟩ (hf.2 h).2)
          have h2' : (a == -9223372036854775808) = true := by simpa using h2
          have h3' : (b == -1) = true := by simpa using h3
          clear hf ha hb h2 h3
          go_enter Tryz.func166, Tryz.ntmps166
          go_wp2
          all_goals
            go_ret2
            exact ⟨ret_nb (by rw [H.out]; try simp_all), rfl⟩
        · have H := Lib.hid (show fitB (a * b) = true from hf.1 ⟨h1, fun e => h3 e.2⟩)
          have h2' : (a == -9223372036854775808) = true := by simpa using h2
          have h3' : (b == -1) = false := by simpa using h3
          clear hf ha hb h2 h3
          go_enter Tryz.func166, Tryz.ntmps166
          go_wp2
          all_goals
            go_ret2
            exact ⟨ret_nb (by rw [H.out]; try simp_all), rfl⟩
      · have H := Lib.hid (show fitB (a * b) = true from hf.1 ⟨h1, fun e => h2 e.1⟩)
        have h2' : (a == -9223372036854775808) = false := by simpa using h2
        clear hf ha hb h2
        go_enter Tryz.func166, Tryz.ntmps166
        go_wp2
        all_goals
          go_ret2
          exact ⟨ret_nb (by rw [H.out]; try simp_all), rfl⟩
    · have H := Lib.hid (show fitB (a * b) = false by
        cases h : fitB (a * b) with
        | false => rfl
        | true => exact absurd (hf.2 h).1 h1)
      clear hf ha hb
      go_enter Tryz.func166, Tryz.ntmps166
      go_wp2
      all_goals
        go_ret2
        exact ⟨ret_nb (by rw [H.out]; try simp_all), rfl⟩
theorem tru_cases (k n : Int) (s : List UInt8) : (k ≠ 3 ∧ truB ⟨k, n, s⟩ = false) ∨ (k = 3 ∧ n ≠ 1 ∧ truB ⟨k, n, s⟩ = false) ∨ (k = 3 ∧ n = 1 ∧ truB ⟨k, n, s⟩ = true) := by
  simp [truB]; omega
theorem tru_prg (v : V) (w : World) : Calls Tryz.prog 158 #[vv v] w fun e w' => e = .returned (.bool (truB v)) ∧ Grown w w' := by
  obtain ⟨k, n, s⟩ := v
  rcases tru_cases k n s with ⟨h, e⟩ | ⟨h, h', e⟩ | ⟨h, h', e⟩
  all_goals
    have H := Lib.hid e
    clear e
    try subst h
    try subst h'
    go_enter Tryz.func158, Tryz.ntmps158
    go_wp2
    go_ret
    exact ⟨ret_bool (by rw [H.out]; try simp_all), (Grown.refl _).alloc _ _⟩
theorem boo_prg (b : Bool) (w : World) : Calls Tryz.prog 157 #[.bool b] w fun e w' => e = .returned (vv (booV b)) ∧ Ext w w' := by
  cases b
  · go_enter Tryz.func157, Tryz.ntmps157
    go_wp2
    exact bodyPost_ret (v := vv ⟨3, 0, []⟩) (by simp [results, Tryz.results157, go_sem]) rfl ⟨rfl, by repeat (first | exact Ext.refl _ | refine Ext.alloc ?_ _ _ | refine Ext.setNew ?_ _ _ (by simp; try omega) _)⟩
  · go_enter Tryz.func157, Tryz.ntmps157
    go_wp2
    exact bodyPost_ret (v := vv ⟨3, 1, []⟩) (by simp [results, Tryz.results157, go_sem]) rfl ⟨rfl, by repeat (first | exact Ext.refl _ | refine Ext.alloc ?_ _ _ | refine Ext.setNew ?_ _ _ (by simp; try omega) _)⟩
end Go.Proofs.YtbplapkcleipiaaGreatDoor
/- Comparisons, conjunctions, arithmetic of the program. -/
namespace Go.Proofs.YtbplapkcleipiaaGreatDoor
open Go.ChangeShapes Go.WideShapes Go.ChangeAt Go.RowKit

theorem gro2 {w w1 : World} (c d : Array Value) (t u : TypeId) (hg : Grown ((w.alloc (.cells c t)).alloc (.cells d u)) w1) : (∀ b o, b < w.heap.size + 2 → w1.cell? ⟨b, o, none⟩ = ((w.alloc (.cells c t)).alloc (.cells d u)).cell? ⟨b, o, none⟩) ∧ w.heap.size < w1.heap.size ∧ w.heap.size + 1 < w1.heap.size ∧ Grown w w1 := by
  have h := hg.2.2
  rw [alsz, alsz] at h
  exact ⟨fun b o hb => (gcell hg).1 b o (by rw [alsz, alsz]; omega), by omega, by omega, grown_trans (((Grown.refl _).alloc _ _).alloc _ _) hg⟩
set_option maxHeartbeats 2000000 in
theorem dec_6 (a b : V) (w : World) : Calls Tryz.prog 160 #[.int .i64 6, vv a, vv b] w fun e w' => e = .returned (.bool (decB 6 a b)) ∧ Grown w w' := by
  have hc := cmp_val a b
  have hd : decB 6 a b = decide (a.k ≠ 0 ∧ cmpV a b = 0) := by simp [decB, eqB]
  obtain ⟨k, n, s⟩ := a
  obtain ⟨k2, n2, s2⟩ := b
  simp only at hd
  generalize cmpV ⟨k, n, s⟩ ⟨k2, n2, s2⟩ = c at *
  have HC := Lib.hid hc
  clear hc
  by_cases h : k = 0
  · have H := Lib.hid (hd.trans (by simp [h]) : decB 6 ⟨k, n, s⟩ ⟨k2, n2, s2⟩ = false)
    subst h
    clear hd
    go_enter Tryz.func160, Tryz.ntmps160
    go_wp2_with fail
    go_ret
    exact ⟨ret_bool H.out.symm, ((Grown.refl _).alloc _ _).alloc _ _⟩
  · have H := Lib.hid (hd.trans (by simp [h]) : decB 6 ⟨k, n, s⟩ ⟨k2, n2, s2⟩ = decide (c = 0))
    clear hd
    go_enter Tryz.func160, Tryz.ntmps160
    go_wp2_with fail
    refine (HC.out _).mono ?_; rintro e w1 ⟨rfl, hg⟩
    go_wp2_with fail
    go_ret
    exact ⟨ret_bool (by rw [H.out]; cases hq : (k != 0) with | true => rfl | false => exact absurd (by simpa using hq) h), (gro2 _ _ _ _ hg).2.2.2⟩
set_option maxHeartbeats 2000000 in
theorem dec_7 (a b : V) (w : World) : Calls Tryz.prog 160 #[.int .i64 7, vv a, vv b] w fun e w' => e = .returned (.bool (decB 7 a b)) ∧ Grown w w' := by
  have hc := cmp_val a b
  have hd : decB 7 a b = decide (a.k = b.k ∧ a.k ≠ 0 ∧ cmpV a b < 0) := by simp [decB, leB]
  obtain ⟨k, n, s⟩ := a
  obtain ⟨k2, n2, s2⟩ := b
  simp only at hd
  generalize cmpV ⟨k, n, s⟩ ⟨k2, n2, s2⟩ = c at *
  have HC := Lib.hid hc
  clear hc
  by_cases h : k = k2
  · subst h
    by_cases h : k = 0
    · have H := Lib.hid (hd.trans (by simp [h]) : decB 7 ⟨k, n, s⟩ ⟨k, n2, s2⟩ = false)
      subst h
      clear hd
      go_enter Tryz.func160, Tryz.ntmps160
      go_wp2_with fail
      go_ret
      exact ⟨ret_bool H.out.symm, ((Grown.refl _).alloc _ _).alloc _ _⟩
    · have H := Lib.hid (hd.trans (by simp [h]) : decB 7 ⟨k, n, s⟩ ⟨k, n2, s2⟩ = decide (c < 0))
      clear hd
      go_enter Tryz.func160, Tryz.ntmps160
      go_wp2_with fail
      refine (HC.out _).mono ?_; rintro e w1 ⟨rfl, hg⟩
      go_wp2_with fail
      go_ret
      exact ⟨ret_bool (by rw [H.out]; simp [h]), (gro2 _ _ _ _ hg).2.2.2⟩
  · have H := Lib.hid (hd.trans (by simp [h]) : decB 7 ⟨k, n, s⟩ ⟨k2, n2, s2⟩ = false)
    have h' : (k == k2) = false := by simpa using h
    clear hd
    go_enter Tryz.func160, Tryz.ntmps160
    go_wp2_with fail
    go_ret
    exact ⟨ret_bool H.out.symm, ((Grown.refl _).alloc _ _).alloc _ _⟩
set_option maxHeartbeats 2000000 in
theorem dec_8 (a b : V) (w : World) : Calls Tryz.prog 160 #[.int .i64 8, vv a, vv b] w fun e w' => e = .returned (.bool (decB 8 a b)) ∧ Grown w w' := by
  have ha := tru_prg a
  have hb := tru_prg b
  have hd : decB 8 a b = (truB a && truB b) := by simp [decB]
  obtain ⟨k, n, s⟩ := a
  obtain ⟨k2, n2, s2⟩ := b
  cases h : truB ⟨k, n, s⟩ with
  | false =>
    rw [h] at ha hd
    have HA := Lib.hid ha
    have H := Lib.hid hd
    clear ha hb hd h
    go_enter Tryz.func160, Tryz.ntmps160
    go_wp2_with fail
    refine (HA.out _).mono ?_; rintro e w1 ⟨rfl, hg⟩
    go_wp2_with fail
    go_ret
    exact ⟨ret_bool (by rw [H.out]; rfl), (gro2 _ _ _ _ hg).2.2.2⟩
  | true =>
    rw [h] at ha hd
    have HA := Lib.hid ha
    have HB := Lib.hid hb
    have H := Lib.hid hd
    clear ha hb hd h
    go_enter Tryz.func160, Tryz.ntmps160
    go_wp2_with fail
    refine (HA.out _).mono ?_; rintro e w1 ⟨rfl, hg⟩
    obtain ⟨gc, gs, gs', gg⟩ := gro2 _ _ _ _ hg
    have b0 : w.heap.size + 1 < w.heap.size + 2 := by omega
    go_wp2_with fail
    refine (HB.out _).mono ?_; rintro e w2 ⟨rfl, hg2⟩
    go_wp2_with fail
    go_ret
    exact ⟨ret_bool (by rw [H.out]; rfl), grown_trans gg hg2⟩
set_option maxHeartbeats 2000000 in
theorem dec_9 (a b : V) (w : World) : Calls Tryz.prog 160 #[.int .i64 9, vv a, vv b] w fun e w' => e = .returned (.bool (decB 9 a b)) ∧ Grown w w' := by
  have ha := tru_prg a
  have hb := tru_prg b
  have hd : decB 9 a b = (truB a || truB b) := by simp [decB]
  obtain ⟨k, n, s⟩ := a
  obtain ⟨k2, n2, s2⟩ := b
  cases h : truB ⟨k, n, s⟩ with
  | true =>
    rw [h] at ha hd
    have HA := Lib.hid ha
    have H := Lib.hid hd
    clear ha hb hd h
    go_enter Tryz.func160, Tryz.ntmps160
    go_wp2_with fail
    refine (HA.out _).mono ?_; rintro e w1 ⟨rfl, hg⟩
    go_wp2_with fail
    go_ret
    exact ⟨ret_bool (by rw [H.out]; rfl), (gro2 _ _ _ _ hg).2.2.2⟩
  | false =>
    rw [h] at ha hd
    have HA := Lib.hid ha
    have HB := Lib.hid hb
    have H := Lib.hid hd
    clear ha hb hd h
    go_enter Tryz.func160, Tryz.ntmps160
    go_wp2_with fail
    refine (HA.out _).mono ?_; rintro e w1 ⟨rfl, hg⟩
    obtain ⟨gc, gs, gs', gg⟩ := gro2 _ _ _ _ hg
    have b0 : w.heap.size + 1 < w.heap.size + 2 := by omega
    go_wp2_with fail
    refine (HB.out _).mono ?_; rintro e w2 ⟨rfl, hg2⟩
    go_wp2_with fail
    go_ret
    exact ⟨ret_bool (by rw [H.out]; rfl), grown_trans gg hg2⟩
theorem dec_prg (op : Int) (ho : 6 ≤ op ∧ op ≤ 9) (a b : V) (w : World) : Calls Tryz.prog 160 #[.int .i64 op, vv a, vv b] w fun e w' => e = .returned (.bool (decB op a b)) ∧ Grown w w' := by
  rcases (show op = 6 ∨ op = 7 ∨ op = 8 ∨ op = 9 by omega) with rfl | rfl | rfl | rfl
  · exact dec_6 a b w
  · exact dec_7 a b w
  · exact dec_8 a b w
  · exact dec_9 a b w
set_option maxHeartbeats 4000000 in
theorem cal_prg (op : Int) (ho : 3 ≤ op ∧ op ≤ 5) (a b : V) (ha : okN a.n) (hb : okN b.n) (w : World) : Calls Tryz.prog 159 #[.int .i64 op, vv a, vv b] w fun e w' => e = .returned (vv (calV op a b)) ∧ Ext w w' := by
  have h3 := add_prg a.n b.n ha hb
  have h4 := sub_prg a.n b.n ha hb
  have h5 := mul_prg a.n b.n ha hb
  obtain ⟨k, n, s⟩ := a
  obtain ⟨k2, n2, s2⟩ := b
  simp only at h3 h4 h5
  clear ha hb
  by_cases h1 : k = 1
  case neg =>
    have H := Lib.hid (show calV op ⟨k, n, s⟩ ⟨k2, n2, s2⟩ = ⟨0, 0, []⟩ by unfold calV; rw [if_neg (fun e => h1 e.1)]; rfl)
    clear h3 h4 h5 ho
    go_enter Tryz.func159, Tryz.ntmps159
    go_wp2_with fail
    exact bodyPost_ret (v := vv ⟨0, 0, []⟩) (by simp [results, Tryz.results159, go_sem]) rfl ⟨ret_vv H.out.symm, by repeat (first | exact Ext.refl _ | refine Ext.alloc ?_ _ _ | refine Ext.setNew ?_ _ _ (by simp; try omega) _)⟩
  subst h1
  by_cases h2 : k2 = 1
  case neg =>
    have H := Lib.hid (show calV op ⟨1, n, s⟩ ⟨k2, n2, s2⟩ = ⟨0, 0, []⟩ by unfold calV; rw [if_neg (fun e => h2 e.2)]; rfl)
    clear h3 h4 h5 ho
    go_enter Tryz.func159, Tryz.ntmps159
    go_wp2_with fail
    exact bodyPost_ret (v := vv ⟨0, 0, []⟩) (by simp [results, Tryz.results159, go_sem]) rfl ⟨ret_vv H.out.symm, by repeat (first | exact Ext.refl _ | refine Ext.alloc ?_ _ _ | refine Ext.setNew ?_ _ _ (by simp; try omega) _)⟩
  subst h2
  have hcal : calV op ⟨1, n, s⟩ ⟨1, n2, s2⟩ = numV (resV op n n2) := by unfold calV; rw [if_pos ⟨rfl, rfl⟩]
  have hf : ∀ z : Int, fitB z = true → numV z = ⟨1, wrap64 z, []⟩ := fun z h => by unfold numV; rw [if_pos h, wrap_fit z h]
  have hg : ∀ z : Int, fitB z = false → numV z = ⟨0, 0, []⟩ := fun z h => by unfold numV; rw [if_neg (by rw [h]; decide)]; rfl
  rcases (show op = 3 ∨ op = 4 ∨ op = 5 by omega) with rfl | rfl | rfl
  · rw [show resV 3 n n2 = n + n2 from rfl] at hcal
    cases hz : fitB (n + n2) with
    | true =>
      have H := Lib.hid (hcal.trans (hf _ hz))
      rw [hz] at h3
      generalize wrap64 (n + n2) = z at *
      have HC := Lib.hid h3
      clear h3 h4 h5 ho hcal hf hg hz
      go_enter Tryz.func159, Tryz.ntmps159
      go_wp2_with fail
      refine (HC.out _).mono ?_; rintro e w1 ⟨rfl, rfl⟩
      go_wp2_with fail
      exact bodyPost_ret (v := vv ⟨1, z, []⟩) (by simp [results, Tryz.results159, go_sem]) rfl ⟨ret_vv H.out.symm, by repeat (first | exact Ext.refl _ | refine Ext.alloc ?_ _ _ | refine Ext.setNew ?_ _ _ (by simp; try omega) _)⟩
    | false =>
      have H := Lib.hid (hcal.trans (hg _ hz))
      rw [hz] at h3
      generalize wrap64 (n + n2) = z at *
      have HC := Lib.hid h3
      clear h3 h4 h5 ho hcal hf hg hz
      go_enter Tryz.func159, Tryz.ntmps159
      go_wp2_with fail
      refine (HC.out _).mono ?_; rintro e w1 ⟨rfl, rfl⟩
      go_wp2_with fail
      exact bodyPost_ret (v := vv ⟨0, 0, []⟩) (by simp [results, Tryz.results159, go_sem]) rfl ⟨ret_vv H.out.symm, by repeat (first | exact Ext.refl _ | refine Ext.alloc ?_ _ _ | refine Ext.setNew ?_ _ _ (by simp; try omega) _)⟩
  · rw [show resV 4 n n2 = n - n2 from rfl] at hcal
    cases hz : fitB (n - n2) with
    | true =>
      have H := Lib.hid (hcal.trans (hf _ hz))
      rw [hz] at h4
      generalize wrap64 (n - n2) = z at *
      have HC := Lib.hid h4
      clear h3 h4 h5 ho hcal hf hg hz
      go_enter Tryz.func159, Tryz.ntmps159
      go_wp2_with fail
      refine (HC.out _).mono ?_; rintro e w1 ⟨rfl, rfl⟩
      go_wp2_with fail
      exact bodyPost_ret (v := vv ⟨1, z, []⟩) (by simp [results, Tryz.results159, go_sem]) rfl ⟨ret_vv H.out.symm, by repeat (first | exact Ext.refl _ | refine Ext.alloc ?_ _ _ | refine Ext.setNew ?_ _ _ (by simp; try omega) _)⟩
    | false =>
      have H := Lib.hid (hcal.trans (hg _ hz))
      rw [hz] at h4
      generalize wrap64 (n - n2) = z at *
      have HC := Lib.hid h4
      clear h3 h4 h5 ho hcal hf hg hz
      go_enter Tryz.func159, Tryz.ntmps159
      go_wp2_with fail
      refine (HC.out _).mono ?_; rintro e w1 ⟨rfl, rfl⟩
      go_wp2_with fail
      exact bodyPost_ret (v := vv ⟨0, 0, []⟩) (by simp [results, Tryz.results159, go_sem]) rfl ⟨ret_vv H.out.symm, by repeat (first | exact Ext.refl _ | refine Ext.alloc ?_ _ _ | refine Ext.setNew ?_ _ _ (by simp; try omega) _)⟩
  · rw [show resV 5 n n2 = n * n2 from rfl] at hcal
    cases hz : fitB (n * n2) with
    | true =>
      have H := Lib.hid (hcal.trans (hf _ hz))
      rw [hz] at h5
      generalize wrap64 (n * n2) = z at *
      have HC := Lib.hid h5
      clear h3 h4 h5 ho hcal hf hg hz
      go_enter Tryz.func159, Tryz.ntmps159
      go_wp2_with fail
      refine (HC.out _).mono ?_; rintro e w1 ⟨rfl, rfl⟩
      go_wp2_with fail
      exact bodyPost_ret (v := vv ⟨1, z, []⟩) (by simp [results, Tryz.results159, go_sem]) rfl ⟨ret_vv H.out.symm, by repeat (first | exact Ext.refl _ | refine Ext.alloc ?_ _ _ | refine Ext.setNew ?_ _ _ (by simp; try omega) _)⟩
    | false =>
      have H := Lib.hid (hcal.trans (hg _ hz))
      rw [hz] at h5
      generalize wrap64 (n * n2) = z at *
      have HC := Lib.hid h5
      clear h3 h4 h5 ho hcal hf hg hz
      go_enter Tryz.func159, Tryz.ntmps159
      go_wp2_with fail
      refine (HC.out _).mono ?_; rintro e w1 ⟨rfl, rfl⟩
      go_wp2_with fail
      exact bodyPost_ret (v := vv ⟨0, 0, []⟩) (by simp [results, Tryz.results159, go_sem]) rfl ⟨ret_vv H.out.symm, by repeat (first | exact Ext.refl _ | refine Ext.alloc ?_ _ _ | refine Ext.setNew ?_ _ _ (by simp; try omega) _)⟩
end Go.Proofs.YtbplapkcleipiaaGreatDoor
