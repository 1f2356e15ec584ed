/- Checking a query, of the program: the columns of a node. -/
import Derived.Test.YtbplapkcleipiaaGreatDoorZz18
namespace Go.Proofs.YtbplapkcleipiaaGreatDoor
open Go.ChangeShapes Go.WideShapes Go.ChangeAt Go.RowKit

theorem two_cells (w : World) (c d : Array Value) (t u : TypeId) : (∀ j v, c[j]? = some v → ((w.alloc (.cells c t)).alloc (.cells d u)).cell? ⟨w.heap.size, j, none⟩ = some v) ∧ (∀ j v, d[j]? = some v → ((w.alloc (.cells c t)).alloc (.cells d u)).cell? ⟨w.heap.size + 1, j, none⟩ = some v) := by
  refine ⟨fun j v h => ((Ext.refl _).alloc _ _).keeps (al_c w c t j v h), fun j v h => ?_⟩
  have := al_c (w.alloc (.cells c t)) d u j v h
  rw [alsz] at this; exact this
set_option maxHeartbeats 2000000 in
set_option maxRecDepth 100000 in
theorem co1 (S : Nat → Prop) (es : List X) (ts : List Tt) (done : List (List Int)) (nd : Nd) (h : Hd) (ve vt vc : Value) (w : World) (hl : RdG w ve es) (ht : RdT S w vt ts) (hd : RdS RdI S w vc done) (hk : nd.k = 1) :
    Calls Tryz.prog 64 #[ckV ve vt vc, ndV ⟨h, nd⟩] w (CoP S w (colO es ts nd done)) := by
  have HT := Lib.hid (fun a1 n1 c1 a3 n3 c3 w' (hE : Ext w w') => (tab_prg S ts nd.s a1 a3 n1 n3 c1 c3 vt w' (ht.ext hE)).mono fun _ _ h => CoP.trans hE h)
  obtain ⟨ad, cap, rfl, _, _⟩ := hl.shape
  obtain ⟨td, tcap, rfl, _, _⟩ := ht.shape
  obtain ⟨cd, ccap, rfl, _, _⟩ := hd.shape
  obtain ⟨xa, xn, xc, xb, xm, xd⟩ := h
  obtain ⟨nk, na, nb, np, ns, ex, ag⟩ := nd
  simp only at hk HT ⊢
  subst hk
  have HQ := Lib.hid (show colO es ts ⟨1, na, nb, np, ns, ex, ag⟩ done = scnC ts ns by simp [colO])
  clear hl ht hd
  go_enter Tryz.func64, Tryz.ntmps64
  go_wp2_with fail
  refine (HT.out _ _ _ _ _ _ _ (((Ext.refl _).alloc _ _).alloc _ _)).mono ?_; rintro e w1 ⟨v, rfl, hr, hE⟩
  go_wp2_with fail
  go_ret2
  rw [HQ.out]
  exact ⟨v, rfl, hr, hE⟩
set_option maxHeartbeats 2000000 in
set_option maxRecDepth 100000 in
theorem co9 (S : Nat → Prop) (es : List X) (ts : List Tt) (done : List (List Int)) (nd : Nd) (h : Hd) (ve vt vc : Value) (w : World) (hl : RdG w ve es) (ht : RdT S w vt ts) (hd : RdS RdI S w vc done) (hk : nd.k = 9) (ha : isIx nd.a done.length = true) :
    Calls Tryz.prog 64 #[ckV ve vt vc, ndV ⟨h, nd⟩] w (CoP S w (colO es ts nd done)) := by
  obtain ⟨ad, cap, rfl, _, _⟩ := hl.shape
  obtain ⟨td, tcap, rfl, _, _⟩ := ht.shape
  obtain ⟨cd, ccap, rfl, _, cc2⟩ := hd.shape
  obtain ⟨xa, xn, xc, xb, xm, xd⟩ := h
  obtain ⟨nk, na, nb, np, ns, ex, ag⟩ := nd
  simp only at hk ha ⊢
  subst hk
  obtain ⟨j, rfl⟩ := nat_of ((isIx_iff _ _).1 ha).1
  have hj : j < done.length := by have := ((isIx_iff _ _).1 ha).2; omega
  obtain ⟨g, o, a, c, rfl, d0, hrel⟩ := hd.at rdI_ok j hj
  have hat : atC done (j : Int) = done[j] := by simp [atC, List.getD, hj]
  have HQ := Lib.hid (show colO es ts ⟨9, j, nb, np, ns, ex, ag⟩ done = (done[j], 0) by simp [colO, hat])
  generalize done[j] = A at *
  have HR := Lib.hid hrel
  clear hl ht hd hrel hat ha
  unfold maxLen at cc2
  have b := two_cells w #[.slice ad es.length cap, .slice td ts.length tcap, .slice (some ⟨g, o, none⟩) done.length ccap] #[.int .i64 9, .int .i64 (j : Int), .int .i64 nb, .int .i64 np, sv ns, .slice xa xn xc, .slice xb xm xd] 108 45
  have t0 : ((w.alloc (.cells #[.slice ad es.length cap, .slice td ts.length tcap, .slice (some ⟨g, o, none⟩) done.length ccap] 108)).alloc (.cells #[.int .i64 9, .int .i64 (j : Int), .int .i64 nb, .int .i64 np, sv ns, .slice xa xn xc, .slice xb xm xd] 45)).cell? ⟨g, o + j, none⟩ = some (.slice a A.length c) := (((Ext.refl _).alloc _ _).alloc _ _).keeps d0
  clear b d0
  go_enter Tryz.func64, Tryz.ntmps64
  go_wp2_with fail
  go_ret2
  rw [HQ.out]
  exact ⟨_, rfl, rdI_ok.ext HR.out (((Ext.refl _).alloc _ _).alloc _ _), ((Ext.refl _).alloc _ _).alloc _ _⟩
/-- the columns of a node whose inputs are there -/
theorem colO_prg (S : Nat → Prop) (es : List X) (ts : List Tt) (done : List (List Int)) (nd : Nd) (h : Hd) (ve vt vc : Value) (w : World) (hl : RdG w ve es) (ht : RdT S w vt ts) (hd : RdS RdI S w vc done) (hn : RdNd w ⟨h, nd⟩) (hU : Up S w)
    (hs1 : nd.ex.length ≤ 1000000) (hs2 : nd.ag.length ≤ 1000000) (hs3 : ∀ c ∈ done, c.length ≤ 1000) (hk : inpN nd.k ≠ -1) (ha : 1 ≤ inpN nd.k → isIx nd.a done.length = true) (hb : inpN nd.k = 2 → isIx nd.b done.length = true) :
    Calls Tryz.prog 64 #[ckV ve vt vc, ndV ⟨h, nd⟩] w (CoP S w (colO es ts nd done)) := by
  rcases ndk nd.k with e | e | e | e | e | e | e | e | e | e | ⟨h1, h2, h3, h4, h5, h6, h7, h8, h9, h10⟩
  · exact co1 S es ts done nd h ve vt vc w hl ht hd e
  · exact co2 S es ts done nd h ve vt vc w hl ht hd hn hU hs1 hs2 hs3 e (ha (by rw [e]; decide))
  · exact co3 S es ts done nd h ve vt vc w hl ht hd hn hU hs1 hs2 hs3 e (ha (by rw [e]; decide))
  · exact co4 S es ts done nd h ve vt vc w hl ht hd hn hU hs1 hs2 hs3 e (ha (by rw [e]; decide)) (hb (by rw [e]; decide))
  · exact co5 S es ts done nd h ve vt vc w hl ht hd hn hU hs1 hs2 hs3 e (ha (by rw [e]; decide)) (hb (by rw [e]; decide))
  · exact co6 S es ts done nd h ve vt vc w hl ht hd hn hU hs1 hs2 hs3 e (ha (by rw [e]; decide)) (hb (by rw [e]; decide))
  · exact co7 S es ts done nd h ve vt vc w hl ht hd hn hU hs1 hs2 hs3 e (ha (by rw [e]; decide)) (hb (by rw [e]; decide))
  · exact co8 S es ts done nd h ve vt vc w hl ht hd hn hU hs1 hs2 hs3 e (ha (by rw [e]; decide)) (hb (by rw [e]; decide))
  · exact co9 S es ts done nd h ve vt vc w hl ht hd e (ha (by rw [e]; decide))
  · exact co10 S es ts done nd h ve vt vc w hl ht hd hn hU hs1 hs2 hs3 e (ha (by rw [e]; decide))
  · exact absurd (inp_none _ h1 h2 h3 h4 h5 h6 h7 h8 h9 h10) hk
theorem inp_vals (k : Int) : inpN k = -1 ∨ inpN k = 0 ∨ inpN k = 1 ∨ inpN k = 2 := by unfold inpN; split <;> (try split) <;> (try split) <;> simp
set_option maxHeartbeats 8000000 in
set_option maxRecDepth 100000 in
theorem chkN_prg (S : Nat → Prop) (es : List X) (ts : List Tt) (done : List (List Int)) (nd : Nd) (h : Hd) (ve vt vc : Value) (w : World) (hl : RdG w ve es) (ht : RdT S w vt ts) (hd : RdS RdI S w vc done) (hn : RdNd w ⟨h, nd⟩) (hU : Up S w)
    (hs1 : nd.ex.length ≤ 1000000) (hs2 : nd.ag.length ≤ 1000000) (hs3 : ∀ c ∈ done, c.length ≤ 1000) :
    Calls Tryz.prog 47 #[ckV ve vt vc, ndV ⟨h, nd⟩] w (CoP S w (chkN es ts nd done)) := by
  have HCO := Lib.hid (fun hk ha hb w' (hE : Ext w w') => (colO_prg S es ts done nd h ve vt vc w' (hl.ext hE) (ht.ext hE) (hd.ext rdI_ok hE) ⟨hn.1.ext hE, hn.2.ext hE⟩ (hU.ext hE) hs1 hs2 hs3 hk ha hb).mono fun _ _ h => CoP.trans hE h)
  obtain ⟨ad, cap, rfl, _, _⟩ := hl.shape
  obtain ⟨td, tcap, rfl, _, _⟩ := ht.shape
  obtain ⟨cd, ccap, rfl, _, cc2⟩ := hd.shape
  obtain ⟨hx, hy⟩ := hn
  obtain ⟨xa, xn, xc, xb, xm, xd⟩ := h
  obtain ⟨nk, na, nb, np, ns, ex, ag⟩ := nd
  simp only [Hd.x, Hd.y] at HCO hx hy ⊢
  have hq : chkN es ts ⟨nk, na, nb, np, ns, ex, ag⟩ done = if inpN nk = -1 then ([], 5) else if (1 ≤ inpN nk ∧ isIx na done.length = false) ∨ (inpN nk = 2 ∧ isIx nb done.length = false) then ([], 10) else wdC (colO es ts ⟨nk, na, nb, np, ns, ex, ag⟩ done) := rfl
  obtain ⟨q, hqe⟩ : ∃ q, q = chkN es ts ⟨nk, na, nb, np, ns, ex, ag⟩ done := ⟨_, rfl⟩
  rw [← hqe] at hq ⊢
  obtain ⟨cz, hcz⟩ : ∃ cz, cz = colO es ts ⟨nk, na, nb, np, ns, ex, ag⟩ done := ⟨_, rfl⟩
  rw [← hcz] at hq HCO
  clear hcz hqe hl ht hd hx hy hU hs1 hs2 hs3
  have HA := Lib.hid (fun w' => pre_prg ad td cd es.length ts.length done.length cap tcap ccap na w')
  have HB := Lib.hid (fun w' => pre_prg ad td cd es.length ts.length done.length cap tcap ccap nb w')
  have HI := Lib.hid (fun w' => inp_prg nk w')
  obtain ⟨n, hn⟩ : ∃ n, n = es.length := ⟨_, rfl⟩
  obtain ⟨m, hm⟩ : ∃ m, m = ts.length := ⟨_, rfl⟩
  obtain ⟨r, hr⟩ : ∃ r, r = done.length := ⟨_, rfl⟩
  rw [← hn, ← hm, ← hr] at HCO HA HB ⊢
  rw [← hr] at hq
  clear hn hm hr
  unfold maxLen at cc2
  have hv := inp_vals nk
  generalize inpN nk = cn at HI HCO hq hv
  generalize isIx na r = ba at HA HCO hq
  generalize isIx nb r = bb at HB HCO hq
  obtain ⟨w0, hw0⟩ : ∃ w0, w0 = (w.alloc (.cells #[.slice ad n cap, .slice td m tcap, .slice cd r ccap] 108)).alloc (.cells #[.int .i64 nk, .int .i64 na, .int .i64 nb, .int .i64 np, sv ns, .slice xa xn xc, .slice xb xm xd] 45) := ⟨_, rfl⟩
  have EX := Lib.hid (show Ext w w0 by rw [hw0]; exact ((Ext.refl _).alloc _ _).alloc _ _)
  have bx := two_cells w #[.slice ad n cap, .slice td m tcap, .slice cd r ccap] #[.int .i64 nk, .int .i64 na, .int .i64 nb, .int .i64 np, sv ns, .slice xa xn xc, .slice xb xm xd] 108 45
  rw [← hw0] at bx
  have p0 : w0.cell? ⟨w.heap.size, 0, none⟩ = some (.slice ad n cap) := bx.1 0 _ rfl
  have p1 : w0.cell? ⟨w.heap.size, 1, none⟩ = some (.slice td m tcap) := bx.1 1 _ rfl
  have p2 : w0.cell? ⟨w.heap.size, 2, none⟩ = some (.slice cd r ccap) := bx.1 2 _ rfl
  have q0 : w0.cell? ⟨w.heap.size + 1, 0, none⟩ = some (.int .i64 nk) := bx.2 0 _ rfl
  have q1 : w0.cell? ⟨w.heap.size + 1, 1, none⟩ = some (.int .i64 na) := bx.2 1 _ rfl
  have q2 : w0.cell? ⟨w.heap.size + 1, 2, none⟩ = some (.int .i64 nb) := bx.2 2 _ rfl
  have q3 : w0.cell? ⟨w.heap.size + 1, 3, none⟩ = some (.int .i64 np) := bx.2 3 _ rfl
  have q4 : w0.cell? ⟨w.heap.size + 1, 4, none⟩ = some (sv ns) := bx.2 4 _ rfl
  have q5 : w0.cell? ⟨w.heap.size + 1, 5, none⟩ = some (.slice xa xn xc) := bx.2 5 _ rfl
  have q6 : w0.cell? ⟨w.heap.size + 1, 6, none⟩ = some (.slice xb xm xd) := bx.2 6 _ rfl
  clear bx
  have HW0 := Lib.hid hw0
  have HQ := Lib.hid hq
  clear hw0 hq
  rcases hv with rfl | rfl | rfl | rfl
  · have HQ1 := Lib.hid (show q = ([], 5) by rw [HQ.out, if_pos rfl])
    clear HQ HCO
    go_enter Tryz.func47, Tryz.ntmps47
    go_wp2_with fail
    rw [← HW0.out]
    refine (HI.out _).mono ?_; rintro e w1 ⟨rfl, rfl⟩
    go_wp2_with fail
    go_ret2
    exact CoP.err S HQ1.out EX.out
  · have hq := HQ.out
    rw [if_neg (by decide), if_neg (by simp)] at hq
    have HC1 := Lib.hid (HCO.out (by decide) (by simp) (by simp))
    obtain ⟨cl, ce⟩ := cz
    unfold wdC at hq
    simp only at hq
    clear HQ HCO
    by_cases h0 : ce = 0
    · subst h0
      rw [if_neg (by simp)] at hq
      by_cases h1 : cl.length = 0 ∨ 64 < cl.length
      · rw [if_pos h1] at hq
        have HQ1 := Lib.hid hq
        clear hq
        go_enter Tryz.func47, Tryz.ntmps47
        go_wp2_with fail
        rw [← HW0.out]
        refine (HI.out _).mono ?_; rintro e w1 ⟨rfl, rfl⟩
        go_wp2_with fail
        refine (HC1.out _ (EX.out.trans (Ext.refl w0))).mono ?_; rintro e w9 ⟨v, rfl, hr, hE⟩
        obtain ⟨va, vn, vcap, hv, _⟩ : ∃ va vn vcap, v = .slice va vn vcap ∧ vn = cl.length := by obtain ⟨a, b, e, _⟩ := hr.1.shape; exact ⟨a, _, b, e, rfl⟩
        subst hv
        rename_i hvn
        simp only at hr
        have HR := Lib.hid hr
        clear hr
        rcases (show vn = 0 ∨ (64 < (vn : Int) ∧ ¬ vn = 0) by omega) with h2 | ⟨h2, h3⟩
        · subst h2
          clear h1 hvn
          go_wp2_with fail
          go_ret2
          exact CoP.err S HQ1.out hE
        · clear h1 hvn
          go_wp2_with fail
          go_ret2
          exact CoP.err S HQ1.out hE
      · rw [if_neg h1] at hq
        have HQ1 := Lib.hid hq
        clear hq
        go_enter Tryz.func47, Tryz.ntmps47
        go_wp2_with fail
        rw [← HW0.out]
        refine (HI.out _).mono ?_; rintro e w1 ⟨rfl, rfl⟩
        go_wp2_with fail
        refine (HC1.out _ (EX.out.trans (Ext.refl w0))).mono ?_; rintro e w9 ⟨v, rfl, hr, hE⟩
        obtain ⟨va, vn, vcap, hv, _⟩ : ∃ va vn vcap, v = .slice va vn vcap ∧ vn = cl.length := by obtain ⟨a, b, e, _⟩ := hr.1.shape; exact ⟨a, _, b, e, rfl⟩
        subst hv
        rename_i hvn
        have HR := Lib.hid hr
        have h2 : (vn : Int) ≤ 64 := by omega
        have h3 : ¬ vn = 0 := by omega
        have h4 : ((vn : Int) == 0) = false := by simp; omega
        clear h1 hr hvn
        go_wp2_with fail
        go_ret2
        rw [HQ1.out]
        exact ⟨_, rfl, HR.out, hE⟩
    · rw [if_pos (by simpa using h0)] at hq
      have HQ1 := Lib.hid hq
      have h0' : (ce == 0) = false := by simpa using h0
      clear hq h0
      go_enter Tryz.func47, Tryz.ntmps47
      go_wp2_with fail
      rw [← HW0.out]
      refine (HI.out _).mono ?_; rintro e w1 ⟨rfl, rfl⟩
      go_wp2_with fail
      refine (HC1.out _ (EX.out.trans (Ext.refl w0))).mono ?_; rintro e w9 ⟨v, rfl, hr, hE⟩
      obtain ⟨va, vn, vcap, hv, _⟩ : ∃ va vn vcap, v = .slice va vn vcap ∧ vn = cl.length := by obtain ⟨a, b, e, _⟩ := hr.1.shape; exact ⟨a, _, b, e, rfl⟩
      subst hv
      go_wp2_with fail
      go_ret2
      exact CoP.err S HQ1.out hE
  · cases ba with
    | false =>
      have HQ1 := Lib.hid (show q = ([], 10) by rw [HQ.out, if_neg (by decide), if_pos (by simp)])
      clear HQ HCO
      go_enter Tryz.func47, Tryz.ntmps47
      go_wp2_with fail
      rw [← HW0.out]
      refine (HI.out _).mono ?_; rintro e w1 ⟨rfl, rfl⟩
      go_wp2_with fail
      refine (HA.out _).mono ?_; rintro e w2 ⟨rfl, hg1⟩
      have hx1 : Ext w0 w2 := ext_of_grown hg1
      have ap0 := hx1.keeps p0
      have ap1 := hx1.keeps p1
      have ap2 := hx1.keeps p2
      have aq0 := hx1.keeps q0
      have aq1 := hx1.keeps q1
      have aq2 := hx1.keeps q2
      have aq3 := hx1.keeps q3
      have aq4 := hx1.keeps q4
      have aq5 := hx1.keeps q5
      have aq6 := hx1.keeps q6
      have s1 : w.heap.size < w2.heap.size := World.block_lt_of_cell? _ _ ap0
      have s11 : w.heap.size + 1 < w2.heap.size := World.block_lt_of_cell? _ _ aq0
      go_wp2_with fail
      go_ret2
      exact CoP.err S HQ1.out (EX.out.trans hx1)
    | true =>
      have hq := HQ.out
      rw [if_neg (by decide), if_neg (by simp)] at hq
      have HC1 := Lib.hid (HCO.out (by decide) (by simp) (by simp))
      obtain ⟨cl, ce⟩ := cz
      unfold wdC at hq
      simp only at hq
      clear HQ HCO
      by_cases h0 : ce = 0
      · subst h0
        rw [if_neg (by simp)] at hq
        by_cases h1 : cl.length = 0 ∨ 64 < cl.length
        · rw [if_pos h1] at hq
          have HQ1 := Lib.hid hq
          clear hq
          go_enter Tryz.func47, Tryz.ntmps47
          go_wp2_with fail
          rw [← HW0.out]
          refine (HI.out _).mono ?_; rintro e w1 ⟨rfl, rfl⟩
          go_wp2_with fail
          refine (HA.out _).mono ?_; rintro e w2 ⟨rfl, hg1⟩
          have hx1 : Ext w0 w2 := ext_of_grown hg1
          have ap0 := hx1.keeps p0
          have ap1 := hx1.keeps p1
          have ap2 := hx1.keeps p2
          have aq0 := hx1.keeps q0
          have aq1 := hx1.keeps q1
          have aq2 := hx1.keeps q2
          have aq3 := hx1.keeps q3
          have aq4 := hx1.keeps q4
          have aq5 := hx1.keeps q5
          have aq6 := hx1.keeps q6
          have s1 : w.heap.size < w2.heap.size := World.block_lt_of_cell? _ _ ap0
          have s11 : w.heap.size + 1 < w2.heap.size := World.block_lt_of_cell? _ _ aq0
          go_wp2_with fail
          refine (HC1.out _ (EX.out.trans hx1)).mono ?_; rintro e w9 ⟨v, rfl, hr, hE⟩
          obtain ⟨va, vn, vcap, hv, _⟩ : ∃ va vn vcap, v = .slice va vn vcap ∧ vn = cl.length := by obtain ⟨a, b, e, _⟩ := hr.1.shape; exact ⟨a, _, b, e, rfl⟩
          subst hv
          rename_i hvn
          simp only at hr
          have HR := Lib.hid hr
          clear hr
          rcases (show vn = 0 ∨ (64 < (vn : Int) ∧ ¬ vn = 0) by omega) with h2 | ⟨h2, h3⟩
          · subst h2
            clear h1 hvn
            go_wp2_with fail
            go_ret2
            exact CoP.err S HQ1.out hE
          · clear h1 hvn
            go_wp2_with fail
            go_ret2
            exact CoP.err S HQ1.out hE
        · rw [if_neg h1] at hq
          have HQ1 := Lib.hid hq
          clear hq
          go_enter Tryz.func47, Tryz.ntmps47
          go_wp2_with fail
          rw [← HW0.out]
          refine (HI.out _).mono ?_; rintro e w1 ⟨rfl, rfl⟩
          go_wp2_with fail
          refine (HA.out _).mono ?_; rintro e w2 ⟨rfl, hg1⟩
          have hx1 : Ext w0 w2 := ext_of_grown hg1
          have ap0 := hx1.keeps p0
          have ap1 := hx1.keeps p1
          have ap2 := hx1.keeps p2
          have aq0 := hx1.keeps q0
          have aq1 := hx1.keeps q1
          have aq2 := hx1.keeps q2
          have aq3 := hx1.keeps q3
          have aq4 := hx1.keeps q4
          have aq5 := hx1.keeps q5
          have aq6 := hx1.keeps q6
          have s1 : w.heap.size < w2.heap.size := World.block_lt_of_cell? _ _ ap0
          have s11 : w.heap.size + 1 < w2.heap.size := World.block_lt_of_cell? _ _ aq0
          go_wp2_with fail
          refine (HC1.out _ (EX.out.trans hx1)).mono ?_; rintro e w9 ⟨v, rfl, hr, hE⟩
          obtain ⟨va, vn, vcap, hv, _⟩ : ∃ va vn vcap, v = .slice va vn vcap ∧ vn = cl.length := by obtain ⟨a, b, e, _⟩ := hr.1.shape; exact ⟨a, _, b, e, rfl⟩
          subst hv
          rename_i hvn
          have HR := Lib.hid hr
          have h2 : (vn : Int) ≤ 64 := by omega
          have h3 : ¬ vn = 0 := by omega
          have h4 : ((vn : Int) == 0) = false := by simp; omega
          clear h1 hr hvn
          go_wp2_with fail
          go_ret2
          rw [HQ1.out]
          exact ⟨_, rfl, HR.out, hE⟩
      · rw [if_pos (by simpa using h0)] at hq
        have HQ1 := Lib.hid hq
        have h0' : (ce == 0) = false := by simpa using h0
        clear hq h0
        go_enter Tryz.func47, Tryz.ntmps47
        go_wp2_with fail
        rw [← HW0.out]
        refine (HI.out _).mono ?_; rintro e w1 ⟨rfl, rfl⟩
        go_wp2_with fail
        refine (HA.out _).mono ?_; rintro e w2 ⟨rfl, hg1⟩
        have hx1 : Ext w0 w2 := ext_of_grown hg1
        have ap0 := hx1.keeps p0
        have ap1 := hx1.keeps p1
        have ap2 := hx1.keeps p2
        have aq0 := hx1.keeps q0
        have aq1 := hx1.keeps q1
        have aq2 := hx1.keeps q2
        have aq3 := hx1.keeps q3
        have aq4 := hx1.keeps q4
        have aq5 := hx1.keeps q5
        have aq6 := hx1.keeps q6
        have s1 : w.heap.size < w2.heap.size := World.block_lt_of_cell? _ _ ap0
        have s11 : w.heap.size + 1 < w2.heap.size := World.block_lt_of_cell? _ _ aq0
        go_wp2_with fail
        refine (HC1.out _ (EX.out.trans hx1)).mono ?_; rintro e w9 ⟨v, rfl, hr, hE⟩
        obtain ⟨va, vn, vcap, hv, _⟩ : ∃ va vn vcap, v = .slice va vn vcap ∧ vn = cl.length := by obtain ⟨a, b, e, _⟩ := hr.1.shape; exact ⟨a, _, b, e, rfl⟩
        subst hv
        go_wp2_with fail
        go_ret2
        exact CoP.err S HQ1.out hE
  · cases ba with
    | false =>
      have HQ1 := Lib.hid (show q = ([], 10) by rw [HQ.out, if_neg (by decide), if_pos (by simp)])
      clear HQ HCO
      go_enter Tryz.func47, Tryz.ntmps47
      go_wp2_with fail
      rw [← HW0.out]
      refine (HI.out _).mono ?_; rintro e w1 ⟨rfl, rfl⟩
      go_wp2_with fail
      refine (HA.out _).mono ?_; rintro e w2 ⟨rfl, hg1⟩
      have hx1 : Ext w0 w2 := ext_of_grown hg1
      have ap0 := hx1.keeps p0
      have ap1 := hx1.keeps p1
      have ap2 := hx1.keeps p2
      have aq0 := hx1.keeps q0
      have aq1 := hx1.keeps q1
      have aq2 := hx1.keeps q2
      have aq3 := hx1.keeps q3
      have aq4 := hx1.keeps q4
      have aq5 := hx1.keeps q5
      have aq6 := hx1.keeps q6
      have s1 : w.heap.size < w2.heap.size := World.block_lt_of_cell? _ _ ap0
      have s11 : w.heap.size + 1 < w2.heap.size := World.block_lt_of_cell? _ _ aq0
      go_wp2_with fail
      go_ret2
      exact CoP.err S HQ1.out (EX.out.trans hx1)
    | true =>
      cases bb with
      | false =>
        have HQ1 := Lib.hid (show q = ([], 10) by rw [HQ.out, if_neg (by decide), if_pos (by simp)])
        clear HQ HCO
        go_enter Tryz.func47, Tryz.ntmps47
        go_wp2_with fail
        rw [← HW0.out]
        refine (HI.out _).mono ?_; rintro e w1 ⟨rfl, rfl⟩
        go_wp2_with fail
        refine (HA.out _).mono ?_; rintro e w2 ⟨rfl, hg1⟩
        have hx1 : Ext w0 w2 := ext_of_grown hg1
        have ap0 := hx1.keeps p0
        have ap1 := hx1.keeps p1
        have ap2 := hx1.keeps p2
        have aq0 := hx1.keeps q0
        have aq1 := hx1.keeps q1
        have aq2 := hx1.keeps q2
        have aq3 := hx1.keeps q3
        have aq4 := hx1.keeps q4
        have aq5 := hx1.keeps q5
        have aq6 := hx1.keeps q6
        have s1 : w.heap.size < w2.heap.size := World.block_lt_of_cell? _ _ ap0
        have s11 : w.heap.size + 1 < w2.heap.size := World.block_lt_of_cell? _ _ aq0
        go_wp2_with fail
        refine (HB.out _).mono ?_; rintro e w3 ⟨rfl, hg2⟩
        have hx2 : Ext w0 w3 := hx1.trans (ext_of_grown hg2)
        have bp0 := hx2.keeps p0
        have bp1 := hx2.keeps p1
        have bp2 := hx2.keeps p2
        have bq0 := hx2.keeps q0
        have bq1 := hx2.keeps q1
        have bq2 := hx2.keeps q2
        have bq3 := hx2.keeps q3
        have bq4 := hx2.keeps q4
        have bq5 := hx2.keeps q5
        have bq6 := hx2.keeps q6
        have s2 : w.heap.size < w3.heap.size := World.block_lt_of_cell? _ _ bp0
        have s21 : w.heap.size + 1 < w3.heap.size := World.block_lt_of_cell? _ _ bq0
        go_wp2_with fail
        go_ret2
        exact CoP.err S HQ1.out (EX.out.trans hx2)
      | true =>
        have hq := HQ.out
        rw [if_neg (by decide), if_neg (by simp)] at hq
        have HC1 := Lib.hid (HCO.out (by decide) (by simp) (by simp))
        obtain ⟨cl, ce⟩ := cz
        unfold wdC at hq
        simp only at hq
        clear HQ HCO
        by_cases h0 : ce = 0
        · subst h0
          rw [if_neg (by simp)] at hq
          by_cases h1 : cl.length = 0 ∨ 64 < cl.length
          · rw [if_pos h1] at hq
            have HQ1 := Lib.hid hq
            clear hq
            go_enter Tryz.func47, Tryz.ntmps47
            go_wp2_with fail
            rw [← HW0.out]
            refine (HI.out _).mono ?_; rintro e w1 ⟨rfl, rfl⟩
            go_wp2_with fail
            refine (HA.out _).mono ?_; rintro e w2 ⟨rfl, hg1⟩
            have hx1 : Ext w0 w2 := ext_of_grown hg1
            have ap0 := hx1.keeps p0
            have ap1 := hx1.keeps p1
            have ap2 := hx1.keeps p2
            have aq0 := hx1.keeps q0
            have aq1 := hx1.keeps q1
            have aq2 := hx1.keeps q2
            have aq3 := hx1.keeps q3
            have aq4 := hx1.keeps q4
            have aq5 := hx1.keeps q5
            have aq6 := hx1.keeps q6
            have s1 : w.heap.size < w2.heap.size := World.block_lt_of_cell? _ _ ap0
            have s11 : w.heap.size + 1 < w2.heap.size := World.block_lt_of_cell? _ _ aq0
            go_wp2_with fail
            refine (HB.out _).mono ?_; rintro e w3 ⟨rfl, hg2⟩
            have hx2 : Ext w0 w3 := hx1.trans (ext_of_grown hg2)
            have bp0 := hx2.keeps p0
            have bp1 := hx2.keeps p1
            have bp2 := hx2.keeps p2
            have bq0 := hx2.keeps q0
            have bq1 := hx2.keeps q1
            have bq2 := hx2.keeps q2
            have bq3 := hx2.keeps q3
            have bq4 := hx2.keeps q4
            have bq5 := hx2.keeps q5
            have bq6 := hx2.keeps q6
            have s2 : w.heap.size < w3.heap.size := World.block_lt_of_cell? _ _ bp0
            have s21 : w.heap.size + 1 < w3.heap.size := World.block_lt_of_cell? _ _ bq0
            go_wp2_with fail
            refine (HC1.out _ (EX.out.trans hx2)).mono ?_; rintro e w9 ⟨v, rfl, hr, hE⟩
            obtain ⟨va, vn, vcap, hv, _⟩ : ∃ va vn vcap, v = .slice va vn vcap ∧ vn = cl.length := by obtain ⟨a, b, e, _⟩ := hr.1.shape; exact ⟨a, _, b, e, rfl⟩
            subst hv
            rename_i hvn
            simp only at hr
            have HR := Lib.hid hr
            clear hr
            rcases (show vn = 0 ∨ (64 < (vn : Int) ∧ ¬ vn = 0) by omega) with h2 | ⟨h2, h3⟩
            · subst h2
              clear h1 hvn
              go_wp2_with fail
              go_ret2
              exact CoP.err S HQ1.out hE
            · clear h1 hvn
              go_wp2_with fail
              go_ret2
              exact CoP.err S HQ1.out hE
          · rw [if_neg h1] at hq
            have HQ1 := Lib.hid hq
            clear hq
            go_enter Tryz.func47, Tryz.ntmps47
            go_wp2_with fail
            rw [← HW0.out]
            refine (HI.out _).mono ?_; rintro e w1 ⟨rfl, rfl⟩
            go_wp2_with fail
            refine (HA.out _).mono ?_; rintro e w2 ⟨rfl, hg1⟩
            have hx1 : Ext w0 w2 := ext_of_grown hg1
            have ap0 := hx1.keeps p0
            have ap1 := hx1.keeps p1
            have ap2 := hx1.keeps p2
            have aq0 := hx1.keeps q0
            have aq1 := hx1.keeps q1
            have aq2 := hx1.keeps q2
            have aq3 := hx1.keeps q3
            have aq4 := hx1.keeps q4
            have aq5 := hx1.keeps q5
            have aq6 := hx1.keeps q6
            have s1 : w.heap.size < w2.heap.size := World.block_lt_of_cell? _ _ ap0
            have s11 : w.heap.size + 1 < w2.heap.size := World.block_lt_of_cell? _ _ aq0
            go_wp2_with fail
            refine (HB.out _).mono ?_; rintro e w3 ⟨rfl, hg2⟩
            have hx2 : Ext w0 w3 := hx1.trans (ext_of_grown hg2)
            have bp0 := hx2.keeps p0
            have bp1 := hx2.keeps p1
            have bp2 := hx2.keeps p2
            have bq0 := hx2.keeps q0
            have bq1 := hx2.keeps q1
            have bq2 := hx2.keeps q2
            have bq3 := hx2.keeps q3
            have bq4 := hx2.keeps q4
            have bq5 := hx2.keeps q5
            have bq6 := hx2.keeps q6
            have s2 : w.heap.size < w3.heap.size := World.block_lt_of_cell? _ _ bp0
            have s21 : w.heap.size + 1 < w3.heap.size := World.block_lt_of_cell? _ _ bq0
            go_wp2_with fail
            refine (HC1.out _ (EX.out.trans hx2)).mono ?_; rintro e w9 ⟨v, rfl, hr, hE⟩
            obtain ⟨va, vn, vcap, hv, _⟩ : ∃ va vn vcap, v = .slice va vn vcap ∧ vn = cl.length := by obtain ⟨a, b, e, _⟩ := hr.1.shape; exact ⟨a, _, b, e, rfl⟩
            subst hv
            rename_i hvn
            have HR := Lib.hid hr
            have h2 : (vn : Int) ≤ 64 := by omega
            have h3 : ¬ vn = 0 := by omega
            have h4 : ((vn : Int) == 0) = false := by simp; omega
            clear h1 hr hvn
            go_wp2_with fail
            go_ret2
            rw [HQ1.out]
            exact ⟨_, rfl, HR.out, hE⟩
        · rw [if_pos (by simpa using h0)] at hq
          have HQ1 := Lib.hid hq
          have h0' : (ce == 0) = false := by simpa using h0
          clear hq h0
          go_enter Tryz.func47, Tryz.ntmps47
          go_wp2_with fail
          rw [← HW0.out]
          refine (HI.out _).mono ?_; rintro e w1 ⟨rfl, rfl⟩
          go_wp2_with fail
          refine (HA.out _).mono ?_; rintro e w2 ⟨rfl, hg1⟩
          have hx1 : Ext w0 w2 := ext_of_grown hg1
          have ap0 := hx1.keeps p0
          have ap1 := hx1.keeps p1
          have ap2 := hx1.keeps p2
          have aq0 := hx1.keeps q0
          have aq1 := hx1.keeps q1
          have aq2 := hx1.keeps q2
          have aq3 := hx1.keeps q3
          have aq4 := hx1.keeps q4
          have aq5 := hx1.keeps q5
          have aq6 := hx1.keeps q6
          have s1 : w.heap.size < w2.heap.size := World.block_lt_of_cell? _ _ ap0
          have s11 : w.heap.size + 1 < w2.heap.size := World.block_lt_of_cell? _ _ aq0
          go_wp2_with fail
          refine (HB.out _).mono ?_; rintro e w3 ⟨rfl, hg2⟩
          have hx2 : Ext w0 w3 := hx1.trans (ext_of_grown hg2)
          have bp0 := hx2.keeps p0
          have bp1 := hx2.keeps p1
          have bp2 := hx2.keeps p2
          have bq0 := hx2.keeps q0
          have bq1 := hx2.keeps q1
          have bq2 := hx2.keeps q2
          have bq3 := hx2.keeps q3
          have bq4 := hx2.keeps q4
          have bq5 := hx2.keeps q5
          have bq6 := hx2.keeps q6
          have s2 : w.heap.size < w3.heap.size := World.block_lt_of_cell? _ _ bp0
          have s21 : w.heap.size + 1 < w3.heap.size := World.block_lt_of_cell? _ _ bq0
          go_wp2_with fail
          refine (HC1.out _ (EX.out.trans hx2)).mono ?_; rintro e w9 ⟨v, rfl, hr, hE⟩
          obtain ⟨va, vn, vcap, hv, _⟩ : ∃ va vn vcap, v = .slice va vn vcap ∧ vn = cl.length := by obtain ⟨a, b, e, _⟩ := hr.1.shape; exact ⟨a, _, b, e, rfl⟩
          subst hv
          go_wp2_with fail
          go_ret2
          exact CoP.err S HQ1.out hE
end Go.Proofs.YtbplapkcleipiaaGreatDoor
