/- Check, of the program. -/
import Derived.Lib.ItoaLen
import Derived.Test.YtbplapkcleipiaaGreatDoorZz20
import Derived.Test.YtbplapkcleipiaaGreatDoorZz40
namespace Go.Proofs.YtbplapkcleipiaaGreatDoor
open Go.ChangeShapes Go.WideShapes Go.ChangeAt Go.RowKit

theorem colsQ_len (es : List X) (ts : List Tt) : ∀ (l : List Nd) (done : List (List Int)), (colsQ es ts l done).2 = 0 → (colsQ es ts l done).1.length = done.length + l.length
  | [], done, _ => by simp [colsQ]
  | n :: l, done, h => by
    unfold colsQ at *
    split at h
    · rename_i h1; simp at h; exact absurd h h1
    · rename_i h1
      rw [if_neg h1, colsQ_len es ts l _ h]; simp; omega
theorem colsQ_wid (es : List X) (ts : List Tt) : ∀ (l : List Nd) (done : List (List Int)), (∀ c ∈ done, c.length ≤ 64) → ∀ c ∈ (colsQ es ts l done).1, c.length ≤ 64
  | [], done, h => by simpa [colsQ] using h
  | n :: l, done, h => by
    unfold colsQ
    split
    · simp
    · refine colsQ_wid es ts l _ fun c hc => ?_
      rcases List.mem_append.1 hc with hc | hc
      · exact h c hc
      · simp only [List.mem_singleton] at hc; subst hc; exact chkN_len es ts n done
theorem colQ_len (es : List X) (ts : List Tt) (l : List Nd) (h : (colQ es ts l).2 = 0) : (colQ es ts l).1.length = l.length ∧ 0 < l.length ∧ l.length ≤ 40 ∧ es.length ≤ 200 := by
  unfold colQ at *
  split at h
  · simp at h
  · rename_i h1
    rw [if_neg h1, colsQ_len es ts l [] h]; simp; omega
theorem colQ_wid (es : List X) (ts : List Tt) (l : List Nd) : ∀ c ∈ (colQ es ts l).1, c.length ≤ 64 := by
  unfold colQ
  split
  · simp
  · exact colsQ_wid es ts l [] (by simp)
theorem colsQ_no (es : List X) (ts : List Tt) : ∀ (l : List Nd) (done : List (List Int)), (colsQ es ts l done).2 ≠ 0 → (colsQ es ts l done).1 = []
  | [], done, h => by simp [colsQ] at h
  | n :: l, done, h => by
    unfold colsQ at h ⊢
    by_cases h1 : (chkN es ts n done).2 ≠ 0
    · rw [if_pos h1]
    · rw [if_neg h1] at h ⊢; exact colsQ_no es ts l _ h
theorem colQ_no (es : List X) (ts : List Tt) (l : List Nd) (h : (colQ es ts l).2 ≠ 0) : (colQ es ts l).1 = [] := by
  unfold colQ at *
  split
  · rfl
  · rename_i h1; rw [if_neg h1] at h; exact colsQ_no es ts l [] h
set_option maxHeartbeats 4000000 in
set_option maxRecDepth 100000 in
theorem chkQ_prg (S : Nat → Prop) (es : List X) (ns : List Nd) (ts : List Tt) (vn ve vt : Value) (w : World) (hn : RdN w vn ns) (hl : RdG w ve es) (ht : RdT S w vt ts) (hU : Up S w) (hs : ∀ n ∈ ns, n.ex.length ≤ 1000000 ∧ n.ag.length ≤ 1000000) :
    Calls Tryz.prog 34 #[.agg #[vn, ve], vt] w (CoP S w (chkQ es ts ns)) := by
  have HK := Lib.hid (fun w' (hE : Ext w w') => (ckQ_prg S es ns ts vn ve vt w' (hn.ext hE) (hl.ext hE) (ht.ext hE) (hU.ext hE) hs))
  obtain ⟨nd, ncap, rfl, ln1, ln2⟩ := hn.shape
  obtain ⟨ad, cap, rfl, le1, le2⟩ := hl.shape
  obtain ⟨td, tcap, rfl, _, _⟩ := ht.shape
  have HU := Lib.hid hU
  have hq : chkQ es ts ns = if (colQ es ts ns).2 ≠ 0 then ([], (colQ es ts ns).2) else ((colQ es ts ns).1.getLastD [], 0) := rfl
  have hlen := colQ_len es ts ns
  have hwid := colQ_wid es ts ns
  obtain ⟨q, hqe⟩ : ∃ q, q = chkQ es ts ns := ⟨_, rfl⟩
  rw [← hqe] at hq ⊢
  clear hn hl ht hs hU hqe
  generalize colQ es ts ns = z at HK hq hlen hwid
  obtain ⟨zc, ze⟩ := z
  simp only at hq hlen hwid
  obtain ⟨n, hn⟩ : ∃ n, n = es.length := ⟨_, rfl⟩
  obtain ⟨m, hm⟩ : ∃ m, m = ts.length := ⟨_, rfl⟩
  obtain ⟨r, hr⟩ : ∃ r, r = ns.length := ⟨_, rfl⟩
  rw [← hn, ← hm, ← hr] at HK ⊢
  rw [← hr] at hlen
  clear hn hm hr
  by_cases he : ze = 0
  · subst he
    obtain ⟨h1, h2, h3, _⟩ := hlen rfl
    rw [if_neg (by simp)] at hq
    obtain ⟨j, hj⟩ : ∃ j, r = j + 1 := ⟨r - 1, by omega⟩
    subst hj
    have hjl : j < zc.length := by omega
    have hlast : zc.getLastD [] = zc[j] := by
      cases zc with
      | nil => simp at hjl
      | cons x l => simp only [List.length_cons] at h1; simp [List.getLastD, List.getLast_eq_getElem, show l.length = j by omega]
    rw [hlast] at hq
    have HQ := Lib.hid hq
    have HW := Lib.hid (hwid zc[j] (List.getElem_mem _))
    have HH1 := Lib.hid h1
    have HJ := Lib.hid hjl
    clear hq hlen hwid h1 hlast
    go_enter Tryz.func34, Tryz.ntmps34
    go_wp2_with fail
    refine (HK.out _ ((Ext.refl _).alloc _ _)).mono ?_; rintro e w1 ⟨v, rfl, hr, hE⟩
    obtain ⟨va, vcap, rfl, v1, v2⟩ := hr.shape
    rw [HH1.out] at hr v1 ⊢
    obtain ⟨g, o, a, c, rfl, d0, hrel⟩ := hr.at rdI_ok j hjl
    have HCL := Lib.hid (clone_I zc[j] _ w1 hrel.1 (by have := HW.out; omega))
    have hE2 := Lib.hid (((Ext.refl w).alloc _ _).trans hE)
    generalize zc[j] = A at *
    obtain ⟨al, hal⟩ : ∃ al, al = A.length := ⟨_, rfl⟩
    rw [← hal] at d0 HCL
    unfold maxLen at v2
    have e1 : ((j + 1 : Nat) : Int) - 1 = (j : Int) := by omega
    clear hr hrel hal hjl hE
    go_wp2_with fail
    refine HCL.out.mono ?_; rintro e w2 ⟨v2, rfl, hO⟩
    have HO := Lib.hid hO
    clear hO
    go_wp2_with fail
    go_ret2
    rw [HQ.out]
    exact ⟨_, rfl, ⟨HO.out.rd, HO.out.inn (HU.out.ext hE2.out)⟩, hE2.out.trans HO.out.2⟩
  · rw [if_pos (by simpa using he)] at hq
    have HQ := Lib.hid hq
    have he' : (ze == 0) = false := by simpa using he
    clear hq he hlen hwid
    go_enter Tryz.func34, Tryz.ntmps34
    go_wp2_with fail
    refine (HK.out _ ((Ext.refl _).alloc _ _)).mono ?_; rintro e w1 ⟨v, rfl, hr, hE⟩
    go_wp2_with fail
    go_ret2
    exact CoP.err S HQ.out (((Ext.refl w).alloc _ _).trans hE)
end Go.Proofs.YtbplapkcleipiaaGreatDoor
/- Rows of nodes stay within bounds: numbers, texts, widths, lineages. -/
namespace Go.Proofs.YtbplapkcleipiaaGreatDoor

def GoodV (T : Nat) (v : V) : Prop := okN v.k ∧ okN v.n ∧ v.s.length ≤ T
def GoodL (T : Nat) (l : List V) : Prop := ∀ v ∈ l, GoodV T v
def GoodX (T : Nat) (es : List X) : Prop := ∀ x ∈ es, GoodV T x.c
theorem okN_small {n : Int} (h0 : -1000000 ≤ n) (h1 : n ≤ 1000000) : okN n := ⟨by omega, by omega⟩
theorem good_nul (T : Nat) : GoodV T nul := ⟨okN_small (by decide) (by decide), okN_small (by decide) (by decide), Nat.zero_le _⟩
theorem okN_one : okN 1 := okN_small (by decide) (by decide)
theorem good_num (T : Nat) (z : Int) : GoodV T (numV z) := by
  unfold numV
  split
  · rename_i h
    have h : -9223372036854775808 ≤ z ∧ z ≤ 9223372036854775807 := by simpa [fitB] using h
    exact ⟨okN_one, h, Nat.zero_le _⟩
  · exact good_nul T
theorem good_boo (T : Nat) (b : Bool) : GoodV T (booV b) := by
  cases b
  · exact ⟨okN_small (by decide) (by decide), okN_small (by decide) (by decide), Nat.zero_le _⟩
  · exact ⟨okN_small (by decide) (by decide), okN_small (by decide) (by decide), Nat.zero_le _⟩
theorem good_cal (T : Nat) (op : Int) (a b : V) : GoodV T (calV op a b) := by
  unfold calV; split
  · exact good_num T _
  · exact good_nul T
theorem good_at {T : Nat} {l : List V} (h : GoodL T l) (i : Int) : GoodV T (atV l i) := by
  unfold atV
  by_cases hi : i.toNat < l.length
  · rw [getD_at l nul _ hi]; exact h _ (List.getElem_mem _)
  · rw [show l.getD i.toNat nul = nul by simp [List.getD, List.getElem?_eq_none (Nat.le_of_not_lt hi)]]; exact good_nul T
theorem good_evO {T : Nat} (x : X) (pre row : List V) (hx : GoodV T x.c) (hr : GoodL T row) : GoodV T (evO x pre row) := by
  unfold evO
  split
  · exact good_nul T
  split
  · exact hx
  split
  · split
    · exact good_at hr _
    · exact good_nul T
  split
  · exact good_cal T _ _ _
  split
  · exact good_boo T _
  split
  · exact good_boo T _
  split
  · exact good_boo T _
  · exact good_nul T
theorem good_evl {T : Nat} (es : List X) (p : Int) (row : List V) (hx : GoodX T es) (hr : GoodL T row) : GoodV T (evlV es p row) := by
  unfold evlV
  split
  · exact good_nul T
  · refine good_at (fun v hv => ?_) _
    obtain ⟨i, hi, rfl⟩ := List.getElem_of_mem hv
    have hl : i < es.length := by rw [evs_len] at hi; exact hi
    rw [← getD_at (evs row es) nul i hi, evs_get row es i hl]
    exact good_evO _ _ _ (hx _ (List.getElem_mem _)) hr
theorem good_val {T : Nat} (es : List X) (ex : List Int) (row : List V) (hx : GoodX T es) (hr : GoodL T row) : GoodL T (valL es ex row) := fun v hv => by
  obtain ⟨p, _, rfl⟩ := List.mem_map.1 hv
  exact good_evl es p row hx hr
theorem good_ag {T : Nat} (es : List X) (l : List R) (g : Int × Int) (hx : GoodX T es) (hl : ∀ r ∈ l, GoodL T r.v) (hn : l.length ≤ 1000000) : GoodV T (agV es l g) := by
  unfold agV
  split
  · have hn' : okN (l.length : Int) := okN_small (by omega) (by omega)
    exact ⟨okN_one, hn', Nat.zero_le _⟩
  · have hz : GoodL T ((l.map fun r => evlV es g.2 r.v).filter fun v => decide (v.k ≠ 0)) := fun v hv => by
      obtain ⟨r, hr, rfl⟩ := List.mem_map.1 (List.mem_filter.1 hv).1
      exact good_evl es _ _ hx (hl r hr)
    simp only
    split
    · exact good_nul T
    · rename_i hne
      generalize (l.map fun r => evlV es g.2 r.v).filter (fun v => decide (v.k ≠ 0)) = az at hz hne
      cases az with
      | nil => exact absurd rfl hne
      | cons x az =>
        split
        · exact hz _ (minL_spec x az).1
        · split
          · exact hz _ (maxL_spec x az).1
          · unfold sumL
            split
            · exact good_nul T
            · exact good_num T _
/- rows -/
structure RowB (T : Nat) (Z : List Int) (n : Nat) (r : R) : Prop where
  wd : r.v.length ≤ n
  vs : GoodL T r.v
  ln : r.t.length ≤ 1000 ∨ Asc r.t
  zs : ∀ x ∈ r.t, x ∈ Z
def RowsB (T : Nat) (Z : List Int) (n : Nat) (l : List R) : Prop := ∀ r ∈ l, RowB T Z n r
theorem RowB.mono {T : Nat} {Z : List Int} {n m : Nat} {r : R} (h : RowB T Z n r) (k : n ≤ m) : RowB T Z m r := ⟨Nat.le_trans h.wd k, h.vs, h.ln, h.zs⟩
theorem asc_nodup {l : List Int} (h : Asc l) : l.Nodup := h.imp fun {a b} hab => by omega
theorem RowB.tl {T : Nat} {Z : List Int} {n : Nat} {r : R} (h : RowB T Z n r) (hZ : Z.length ≤ 10000) : r.t.length ≤ 10000 := by
  rcases h.ln with h1 | h1
  · omega
  · exact Nat.le_trans ((asc_nodup h1).length_le_of_subset h.zs) hZ
theorem lin_zs {Z : List Int} {l : List R} (h : ∀ r ∈ l, ∀ x ∈ r.t, x ∈ Z) : ∀ x ∈ linR l, x ∈ Z := fun x hx => by
  obtain ⟨r, hr, hx⟩ := List.mem_flatMap.1 ((linL_mem _ x).1 hx)
  exact h r hr x hx
theorem scn_mem (db : List Tb) (s : List UInt8) : ∀ r ∈ scnL db s, ∃ tb ∈ db, r ∈ tb.l := by
  induction db with
  | nil => intro r hr; cases hr
  | cons t db ih =>
    intro r hr
    unfold scnL at hr
    split at hr
    · exact ⟨t, by simp, hr⟩
    · obtain ⟨tb, h1, h2⟩ := ih r hr
      exact ⟨tb, List.mem_cons_of_mem _ h1, h2⟩
theorem dec_len9 (N : Nat) (h : N < 18446744073709551616) : (Lib.decDigits N).length ≤ 20 := by rw [Lib.decDigits_length]; exact Lib.nDigits_le20 N h
theorem key_len_le (T : Nat) (hT : T ≤ 1073741824) : ∀ l : List V, GoodL T l → (keyL l).length ≤ l.length * (T + 100)
  | [], _ => by simp [keyL]
  | v :: l, h => by
    have ih := key_len_le T hT l fun u hu => h u (List.mem_cons_of_mem _ hu)
    obtain ⟨h1, h2, h3⟩ := h v (by simp)
    have il : ∀ n : Int, okN n → (Lib.itoa n).length ≤ 21 := fun n hn => by
      rw [itoa_num]
      have := dec_len9 n.natAbs (by have := hn.1; have := hn.2; omega)
      unfold numS
      split <;> simp <;> omega
    have a1 := il _ h1
    have a2 := il _ h2
    have a3 := il (v.s.length : Int) ⟨by omega, by omega⟩
    simp only [keyL, List.length_append, List.length_cons, Nat.add_mul]
    omega
theorem key_ok {T : Nat} (hT : T ≤ 1073741824) {l : List V} (h : GoodL T l) (hl : l.length ≤ 1000) : KeyOk l := by
  refine ⟨fun v hv => ⟨(h v hv).1, (h v hv).2.1⟩, ?_⟩
  have h1 := key_len_le T hT l h
  have h2 : l.length * (T + 100) ≤ 1000 * (1073741824 + 100) := Nat.mul_le_mul hl (by omega)
  omega
theorem fm_len {α β : Type} (f : α → List β) (B : Nat) : ∀ l : List α, (∀ x ∈ l, (f x).length ≤ B) → (l.flatMap f).length ≤ l.length * B
  | [], _ => by simp
  | x :: l, h => by
    have ih := fm_len f B l fun y hy => h y (List.mem_cons_of_mem _ hy)
    have h1 := h x (by simp)
    simp only [List.flatMap_cons, List.length_append, List.length_cons, Nat.add_mul]
    omega
theorem cls_mem {f : R → List V} {l : List R} {c : Cl} (hc : c ∈ clsF f l) : (∃ r ∈ l, f r = c.1) ∧ (∀ r ∈ c.2, r ∈ l) ∧ c.2.length ≤ l.length := by
  have h := (clsF_isC f l).cls c hc
  obtain ⟨r, hr, e⟩ := List.mem_map.1 (((clsF_isC f l).mem c.1).1 (List.mem_map_of_mem hc))
  refine ⟨⟨r, hr, e⟩, fun r hr => (List.mem_filter.1 (h.mem_iff.1 hr)).1, ?_⟩
  rw [h.length_eq]; exact List.length_filter_le _ _
/-- what one node makes of bounded rows -/
theorem one_cls {T : Nat} {Z : List Int} {n : Nat} {l : List R} (h : RowsB T Z n l) {c : Cl} (hc : c ∈ clsF R.v l) : RowB T Z n ⟨c.1, linR c.2⟩ := by
  obtain ⟨⟨r, hr, e⟩, h2, _⟩ := cls_mem hc
  have hb := h r hr
  refine ⟨by rw [← e]; exact hb.wd, by rw [← e]; exact hb.vs, .inr (linL_asc _), lin_zs fun r hr => (h r (h2 r hr)).zs⟩
theorem cmb_rows {T : Nat} {Z : List Int} {n : Nat} (f : Nat → Nat → Nat) {a b : List R} (h : RowsB T Z n (a ++ b)) : RowsB T Z n ((clsF R.v (a ++ b)).flatMap (cmbC f a)) := fun r hr => by
  obtain ⟨c, hc, hr⟩ := List.mem_flatMap.1 hr
  obtain rfl := List.eq_of_mem_replicate hr
  exact one_cls h hc
theorem sel_rows {T : Nat} {Z : List Int} {n : Nat} (es : List X) (p : Int) {l : List R} (h : RowsB T Z n l) : RowsB T Z n (selL es p l) := fun r hr => h r (List.mem_filter.1 hr).1
theorem prj_rows {T : Nat} {Z : List Int} {n : Nat} (es : List X) (hx : GoodX T es) (ex : List Int) {l : List R} (h : RowsB T Z n l) : RowsB T Z ex.length (prjL es ex l) := fun r hr => by
  obtain ⟨q, hq, rfl⟩ := List.mem_map.1 hr
  have hb := h q hq
  exact ⟨by simp [valL], good_val es ex _ hx hb.vs, hb.ln, hb.zs⟩
theorem jn_rows {T : Nat} {Z : List Int} {n m : Nat} (es : List X) (p : Int) (left : Bool) (w : Nat) (hw : w ≤ m) {a b : List R} (ha : RowsB T Z n a) (hb : RowsB T Z m b) : RowsB T Z (n + m) (jnL es p left w a b) := fun r hr => by
  obtain ⟨x, hx, hr⟩ := List.mem_flatMap.1 hr
  have h1 := ha x hx
  unfold oneJ at hr
  split at hr
  · simp only [List.mem_singleton] at hr; subst hr
    refine ⟨?_, fun v hv => ?_, h1.ln, h1.zs⟩
    · simp only [padL, List.length_append, List.length_replicate]; have := h1.wd; omega
    · rcases List.mem_append.1 hv with hv | hv
      · exact h1.vs v hv
      · obtain rfl := List.eq_of_mem_replicate hv; exact good_nul T
  · obtain ⟨y, hy, rfl⟩ := List.mem_map.1 hr
    have h2 := hb y (List.mem_filter.1 hy).1
    refine ⟨?_, fun v hv => ?_, .inr (linL_asc _), fun x hx => ?_⟩
    · simp only [List.length_append]; have := h1.wd; have := h2.wd; omega
    · rcases List.mem_append.1 hv with hv | hv
      · exact h1.vs v hv
      · exact h2.vs v hv
    · rcases List.mem_append.1 ((linL_mem _ x).1 hx) with hx | hx
      · exact h1.zs x hx
      · exact h2.zs x hx
theorem grp_rows {T : Nat} {Z : List Int} {n : Nat} (es : List X) (hx : GoodX T es) (ex : List Int) (ag : List (Int × Int)) {l : List R} (h : RowsB T Z n l) (hl : l.length ≤ 1000000) : RowsB T Z (ex.length + ag.length) ((oneC ex (clsF (fun r => valL es ex r.v) l)).map (grpR es ag)) := fun r hr => by
  obtain ⟨c, hc, rfl⟩ := List.mem_map.1 hr
  have key : c.1.length ≤ ex.length ∧ GoodL T c.1 ∧ (∀ r ∈ c.2, r ∈ l) ∧ c.2.length ≤ 1000000 := by
    unfold oneC at hc
    split at hc
    · simp only [List.mem_singleton] at hc; subst hc
      exact ⟨by simp, fun v hv => (by cases hv), fun r hr => (by cases hr), by simp⟩
    · obtain ⟨⟨r, hr, e⟩, h2, h3⟩ := cls_mem hc
      rw [← e]
      exact ⟨by simp [valL], good_val es ex _ hx (h r hr).vs, h2, by omega⟩
  obtain ⟨k1, k2, k3, k4⟩ := key
  refine ⟨?_, fun v hv => ?_, .inr (linL_asc _), lin_zs fun r hr => (h r (k3 r hr)).zs⟩
  · simp only [grpR, List.length_append, List.length_map]; omega
  · rcases List.mem_append.1 hv with hv | hv
    · exact k2 v hv
    · obtain ⟨g, _, rfl⟩ := List.mem_map.1 hv
      exact good_ag es _ g hx (fun r hr => (h r (k3 r hr)).vs) k4
end Go.Proofs.YtbplapkcleipiaaGreatDoor
/- Evaluating a query, of the program: one node of a checked query. -/
namespace Go.Proofs.YtbplapkcleipiaaGreatDoor
open Go.ChangeShapes Go.WideShapes Go.ChangeAt Go.RowKit

/-- what a checked node has -/
structure Chk (es : List X) (ts : List Tt) (pre : List (List Int)) (nd : Nd) (c : List Int) : Prop where
  col : colO es ts nd pre = (c, 0)
  lo : 0 < c.length
  hi : c.length ≤ 64
  kd : 1 ≤ nd.k ∧ nd.k ≤ 10
  ia : nd.k ≠ 1 → isIx nd.a pre.length = true
  ib : 4 ≤ nd.k ∧ nd.k ≤ 8 → isIx nd.b pre.length = true
theorem chk_of {es : List X} {ts : List Tt} {pre : List (List Int)} {nd : Nd} {c : List Int} (h : chkN es ts nd pre = (c, 0)) : Chk es ts pre nd c := by
  unfold chkN at h
  by_cases h1 : inpN nd.k = -1
  · rw [if_pos h1] at h; injection h with _ h; exact absurd h (by decide)
  rw [if_neg h1] at h
  by_cases h2 : (1 ≤ inpN nd.k ∧ isIx nd.a pre.length = false) ∨ (inpN nd.k = 2 ∧ isIx nd.b pre.length = false)
  · rw [if_pos h2] at h; injection h with _ h; exact absurd h (by decide)
  rw [if_neg h2] at h
  have hk : (1 ≤ nd.k ∧ nd.k ≤ 10) ∧ (nd.k ≠ 1 → 1 ≤ inpN nd.k) ∧ (4 ≤ nd.k ∧ nd.k ≤ 8 → inpN nd.k = 2) := by
    unfold inpN at h1 ⊢
    split at h1
    · rename_i e; rw [if_pos e]; omega
    · rename_i e; rw [if_neg e]
      split at h1
      · rename_i e2; rw [if_pos e2]; omega
      · rename_i e2; rw [if_neg e2]
        split at h1
        · rename_i e3; rw [if_pos e3]; omega
        · exact absurd rfl h1
  have hw : colO es ts nd pre = (c, 0) ∧ 0 < c.length ∧ c.length ≤ 64 := by
    unfold wdC at h
    by_cases h3 : (colO es ts nd pre).2 ≠ 0
    · rw [if_pos h3] at h; injection h with _ h; exact absurd h h3
    rw [if_neg h3] at h
    by_cases h4 : (colO es ts nd pre).1.length = 0 ∨ 64 < (colO es ts nd pre).1.length
    · rw [if_pos h4] at h; injection h with _ h; exact absurd h (by decide)
    rw [if_neg h4] at h
    rw [h] at h4 ⊢
    change ¬(c.length = 0 ∨ 64 < c.length) at h4
    exact ⟨rfl, by omega, by omega⟩
  obtain ⟨hw1, hw2, hw3⟩ := hw
  refine ⟨hw1, hw2, hw3, hk.1, fun h5 => ?_, fun h5 => ?_⟩
  · cases e : isIx nd.a pre.length with
    | true => rfl
    | false => exact absurd (.inl ⟨hk.2.1 h5, e⟩) h2
  · cases e : isIx nd.b pre.length with
    | true => rfl
    | false => exact absurd (.inr ⟨hk.2.2 h5, e⟩) h2
theorem mapE_len {α β : Type} (f : α → β × Int) (l : List α) (c : List β) (h : mapE f l = (c, 0)) : c.length = l.length := by
  have h2 := (mapE_iff f l).1 (by rw [h])
  rw [mapE_ok f l h2] at h
  injection h with h _
  rw [← h, List.length_map]
theorem grp_kinds {es : List X} {ex : List Int} {ag : List (Int × Int)} {cols c : List Int} (h : grpC es ex ag cols = (c, 0)) : c.length = ex.length + ag.length ∧ ∀ g ∈ ag, 1 ≤ g.1 ∧ g.1 ≤ 4 := by
  unfold grpC at h
  by_cases h1 : (typC es ex cols).2 ≠ 0
  · rw [if_pos h1] at h; injection h with _ h; exact absurd h h1
  rw [if_neg h1] at h
  by_cases h2 : (mapE (argC es cols) ag).2 ≠ 0
  · rw [if_pos h2] at h; injection h with _ h; exact absurd h h2
  rw [if_neg h2] at h
  by_cases h3 : ag.any (badS es cols) = true
  · rw [if_pos h3] at h; injection h with _ h; exact absurd h (by decide)
  rw [if_neg h3] at h
  injection h with h _
  refine ⟨by rw [← h]; simp, fun g hg => ?_⟩
  have h4 := (mapE_iff _ _).1 (by simpa using h2) g hg
  unfold argC at h4
  split at h4
  · omega
  · split at h4
    · omega
    · exact absurd h4 (by decide)
theorem prd_cols {es : List X} {p : Int} {cols c : List Int} (h : prdC es p cols = (c, 0)) : c = cols := by
  unfold prdC at h
  by_cases h1 : (chkV es p cols).2 ≠ 0
  · rw [if_pos h1] at h; injection h with _ h; exact absurd h h1
  rw [if_neg h1] at h
  split at h
  · injection h with h _; exact h.symm
  · injection h with _ h; exact absurd h (by decide)
theorem cmn_cols {a b c : List Int} (h : cmnC a b = (c, 0)) : a.length = b.length ∧ c.length = a.length := by
  unfold cmnC at h
  have key : ∀ a b c : List Int, cmn a b = some c → c.length = a.length := by
    intro a
    induction a with
    | nil => intro b c h; cases b with
      | nil => simp [cmn] at h; subst h; rfl
      | cons y b => simp [cmn] at h
    | cons x a ih => intro b c h; cases b with
      | nil => simp [cmn] at h
      | cons y b =>
        simp only [cmn] at h
        split at h
        · obtain ⟨d, hd, rfl⟩ := Option.map_eq_some_iff.1 h; simp [ih b d hd]
        · split at h
          · obtain ⟨d, hd, rfl⟩ := Option.map_eq_some_iff.1 h; simp [ih b d hd]
          · cases h
  cases e : cmn a b with
  | some d =>
    rw [e] at h; injection h with h _; subst h
    exact ⟨cmn_len a b d e, key a b d e⟩
  | none => rw [e] at h; injection h with _ h; exact absurd h (by decide)
/-- bounded rows of the nodes that were evaluated -/
def DoneB (T : Nat) (Z : List Int) (pre : List (List Int)) (done : List (List R)) : Prop := ∀ i : Int, isIx i done.length = true → (atL done i).length ≤ 4096 ∧ RowsB T Z (6 * (atC pre i).length) (atL done i)
theorem evN_good {T : Nat} {Z : List Int} {es : List X} {db : List Tb} {cols pre : List (List Int)} {nd : Nd} {done : List (List R)} {c : List Int} (hx : GoodX T es) (hdb : ∀ tb ∈ db, RowsB T Z 6 tb.l) (hd : DoneB T Z pre done) (hl : pre.length = done.length) (hk : Chk es (db.map Tb.t) pre nd c)
    (hcb : isIx nd.b done.length = true → atC cols nd.b = atC pre nd.b) : RowsB T Z (6 * c.length) (evN clsF es db cols nd done) := by
  obtain ⟨h1, h2, h3, h4, h5, h6⟩ := hk
  rw [hl] at h5 h6
  unfold colO at h1
  unfold evN
  by_cases k1 : nd.k = 1
  · rw [if_pos k1]
    intro r hr
    obtain ⟨tb, ht, hr⟩ := scn_mem db nd.s r hr
    exact (hdb tb ht r hr).mono (by omega)
  rw [if_neg k1] at h1 ⊢
  obtain ⟨a1, a2⟩ := hd nd.a (h5 k1)
  by_cases k2 : nd.k = 2
  · rw [if_pos k2] at h1 ⊢
    rw [prd_cols h1]; exact sel_rows es nd.p a2
  rw [if_neg k2] at h1 ⊢
  by_cases k3 : nd.k = 3
  · rw [if_pos k3] at h1 ⊢
    have := mapE_len _ _ _ h1
    exact fun r hr => (prj_rows es hx nd.ex a2 r hr).mono (by omega)
  rw [if_neg k3] at h1 ⊢
  by_cases k4 : nd.k = 4 ∨ nd.k = 5
  · rw [if_pos k4] at h1 ⊢
    obtain ⟨b1, b2⟩ := hd nd.b (h6 (by omega))
    rw [prd_cols h1, List.length_append, Nat.mul_add]
    exact jn_rows es nd.p _ _ (by rw [hcb (h6 (by omega))]; omega) a2 b2
  rw [if_neg k4] at h1 ⊢
  by_cases k6 : nd.k = 6 ∨ nd.k = 7 ∨ nd.k = 8
  · rw [if_pos k6] at h1
    obtain ⟨b1, b2⟩ := hd nd.b (h6 (by omega))
    obtain ⟨e1, e2⟩ := cmn_cols h1
    have hab : RowsB T Z (6 * c.length) (atL done nd.a ++ atL done nd.b) := fun r hr => by
      rcases List.mem_append.1 hr with hr | hr
      · exact (a2 r hr).mono (by omega)
      · exact (b2 r hr).mono (by omega)
    rcases k6 with k | k | k
    · rw [if_pos k]; exact hab
    · rw [if_neg (by omega), if_pos k]; exact cmb_rows _ hab
    · rw [if_neg (by omega), if_neg (by omega), if_pos k]; exact cmb_rows _ hab
  rw [if_neg k6] at h1
  rw [if_neg (by omega), if_neg (by omega), if_neg (by omega)]
  by_cases k10 : nd.k = 10
  · rw [if_pos k10] at h1 ⊢
    have := (grp_kinds h1).1
    exact fun r hr => (grp_rows es hx nd.ex nd.ag a2 (by omega) r hr).mono (by omega)
  rw [if_neg k10] at h1 ⊢
  injection h1 with h1 _
  rw [← h1]
  intro r hr
  obtain ⟨d, hd', rfl⟩ := List.mem_map.1 hr
  exact one_cls a2 hd'
theorem rows_oks {T : Nat} {Z : List Int} {n : Nat} {l : List R} (h : RowsB T Z n l) : OkRs l := fun r hr v hv => ((h r hr).vs v hv).2.1
theorem rows_wid {T : Nat} {Z : List Int} {n : Nat} {l : List R} (h : RowsB T Z n l) (hn : n ≤ 1000) (hZ : Z.length ≤ 10000) : Wid l := fun r hr => ⟨Nat.le_trans (h r hr).wd hn, Nat.le_trans ((h r hr).tl hZ) (by omega)⟩
theorem cls_lin {T : Nat} {Z : List Int} {n : Nat} {f : R → List V} {l : List R} (h : RowsB T Z n l) (hZ : Z.length ≤ 10000) (hl : l.length ≤ 10000) : ∀ c ∈ clsF f l, (c.2.flatMap R.t).length ≤ 100000000 := fun c hc => by
  obtain ⟨_, h2, h3⟩ := cls_mem hc
  have h4 := fm_len R.t 10000 c.2 fun r hr => (h r (h2 r hr)).tl hZ
  have h5 : c.2.length * 10000 ≤ 10000 * 10000 := Nat.mul_le_mul (by omega) (Nat.le_refl _)
  omega
theorem cmb_len (f : Nat → Nat → Nat) (hf : ∀ m n, f m n ≤ m) {a b : List R} (ha : a.length ≤ 4096) (hb : b.length ≤ 4096) : ((clsF R.v (a ++ b)).flatMap (cmbC f a)).length ≤ 100000000 := by
  have h1 := fm_len (cmbC f a) 4096 (clsF R.v (a ++ b)) fun c _ => by
    unfold cmbC
    rw [List.length_replicate]
    refine Nat.le_trans (hf _ _) (Nat.le_trans ?_ ha)
    exact List.countP_le_length
  have h2 := cls_len R.v (a ++ b)
  rw [List.length_append] at h2
  have h3 : (clsF R.v (a ++ b)).length * 4096 ≤ 8192 * 4096 := Nat.mul_le_mul (by omega) (Nat.le_refl _)
  omega
theorem goodX_ok {T : Nat} {es : List X} (h : GoodX T es) : OkX es := fun x hx => (h x hx).2.1
theorem evN_prg (S : Nat → Prop) (T : Nat) (Z : List Int) (es : List X) (db : List Tb) (cols pre : List (List Int)) (done : List (List R)) (nd : Nd) (h : Hd) (c : List Int) (ve vd vc vr : Value) (w : World) (hl : RdG w ve es) (hdb : RdB9 S w vd db) (hc : RdS RdI S w vc cols) (hd : RdS RdR S w vr done) (hn : RdNd w ⟨h, nd⟩) (hU : Up S w) (hG : PT w)
    (hs : es.length ≤ 1000) (hx : GoodX T es) (hT : T ≤ 1073741824) (hZ : Z.length ≤ 10000) (hD : DoneB T Z pre done) (hpl : pre.length = done.length) (hk : Chk es (db.map Tb.t) pre nd c) (hw : ∀ c ∈ pre, c.length ≤ 64) (hcl : done.length ≤ cols.length) (hcb : ∀ i, isIx i done.length = true → atC cols i = atC pre i) :
    Calls Tryz.prog 48 #[eaV ve vd vc vr, ndV ⟨h, nd⟩] w (RoF S w (evN clsF es db cols nd done)) := by
  have hxo := goodX_ok hx
  have hwd : ∀ i, isIx i done.length = true → (atC pre i).length ≤ 64 := fun i hi => by
    have := (isIx_iff _ _).1 hi
    unfold atC
    rw [getD_at pre [] _ (by omega)]; exact hw _ (List.getElem_mem _)
  have ia := hk.ia
  have ib := hk.ib
  rw [hpl] at ia ib
  obtain ⟨k0, k1⟩ := hk.kd
  have hcol := hk.col
  have hhi := hk.hi
  rcases (show nd.k = 1 ∨ nd.k = 2 ∨ nd.k = 3 ∨ nd.k = 4 ∨ nd.k = 5 ∨ nd.k = 6 ∨ nd.k = 7 ∨ nd.k = 8 ∨ nd.k = 9 ∨ nd.k = 10 by omega) with k | k | k | k | k | k | k | k | k | k
  · exact en1 S es db cols done nd h ve vd vc vr w hl hdb hc hd hn hU k trivial
  · have ha := ia (by omega)
    obtain ⟨a1, a2⟩ := hD nd.a ha
    exact en2 S es db cols done nd h ve vd vc vr w hl hdb hc hd hn hU k hs hxo ha (rows_oks a2) (by omega)
  · have ha := ia (by omega)
    obtain ⟨a1, a2⟩ := hD nd.a ha
    have he := mapE_len _ _ _ (show mapE (fun x => chkV es x (atC pre nd.a)) nd.ex = (c, 0) by simpa [colO, k, typC] using hcol)
    exact en3 S es db cols done nd h ve vd vc vr w hl hdb hc hd hn hU k hs hxo ha (rows_oks a2) (by omega) (by omega)
  · have ha := ia (by omega)
    have hb := ib (by omega)
    obtain ⟨a1, a2⟩ := hD nd.a ha
    obtain ⟨b1, b2⟩ := hD nd.b hb
    have w1 := hwd _ ha
    have w2 := hwd _ hb
    have hbc : isIx nd.b cols.length = true := (isIx_iff _ _).2 (by have := (isIx_iff _ _).1 hb; omega)
    exact en4 S es db cols done nd h ve vd vc vr w hl hdb hc hd hn hU k hs hxo ha hb hbc (rows_oks a2) (rows_oks b2) (rows_wid a2 (by omega) hZ) (rows_wid b2 (by omega) hZ) (by omega) (by omega) (by rw [hcb _ hb]; omega)
  · have ha := ia (by omega)
    have hb := ib (by omega)
    obtain ⟨a1, a2⟩ := hD nd.a ha
    obtain ⟨b1, b2⟩ := hD nd.b hb
    have w1 := hwd _ ha
    have w2 := hwd _ hb
    have hbc : isIx nd.b cols.length = true := (isIx_iff _ _).2 (by have := (isIx_iff _ _).1 hb; omega)
    exact en5 S es db cols done nd h ve vd vc vr w hl hdb hc hd hn hU k hs hxo ha hb hbc (rows_oks a2) (rows_oks b2) (rows_wid a2 (by omega) hZ) (rows_wid b2 (by omega) hZ) (by omega) (by omega) (by rw [hcb _ hb]; omega)
  · have ha := ia (by omega)
    have hb := ib (by omega)
    obtain ⟨a1, a2⟩ := hD nd.a ha
    obtain ⟨b1, b2⟩ := hD nd.b hb
    exact en6 S es db cols done nd h ve vd vc vr w hl hdb hc hd hn hU k ha hb (by omega)
  · have ha := ia (by omega)
    have hb := ib (by omega)
    obtain ⟨a1, a2⟩ := hD nd.a ha
    obtain ⟨b1, b2⟩ := hD nd.b hb
    have w1 := hwd _ ha
    have w2 := hwd _ hb
    have hab : RowsB T Z 1000 (atL done nd.a ++ atL done nd.b) := fun r hr => by
      rcases List.mem_append.1 hr with hr | hr
      · exact (a2 r hr).mono (by omega)
      · exact (b2 r hr).mono (by omega)
    exact en7 S es db cols done nd h ve vd vc vr w hl hdb hc hd hn hU k hG ha hb (fun r hr => key_ok hT (hab r hr).vs (hab r hr).wd) (by omega) (cls_lin hab hZ (by rw [List.length_append]; omega)) (cmb_len timE (fun m n => Nat.sub_le m n) a1 b1)
  · have ha := ia (by omega)
    have hb := ib (by omega)
    obtain ⟨a1, a2⟩ := hD nd.a ha
    obtain ⟨b1, b2⟩ := hD nd.b hb
    have w1 := hwd _ ha
    have w2 := hwd _ hb
    have hab : RowsB T Z 1000 (atL done nd.a ++ atL done nd.b) := fun r hr => by
      rcases List.mem_append.1 hr with hr | hr
      · exact (a2 r hr).mono (by omega)
      · exact (b2 r hr).mono (by omega)
    exact en8 S es db cols done nd h ve vd vc vr w hl hdb hc hd hn hU k hG ha hb (fun r hr => key_ok hT (hab r hr).vs (hab r hr).wd) (by omega) (cls_lin hab hZ (by rw [List.length_append]; omega)) (cmb_len timI (fun m n => Nat.min_le_left m n) a1 b1)
  · have ha := ia (by omega)
    obtain ⟨a1, a2⟩ := hD nd.a ha
    have w1 := hwd _ ha
    exact en9 S es db cols done nd h ve vd vc vr w hl hdb hc hd hn hU k hG ha (fun r hr => key_ok hT (a2 r hr).vs (Nat.le_trans (a2 r hr).wd (by omega))) (by omega) (cls_lin a2 hZ (by omega))
  · have ha := ia (by omega)
    obtain ⟨a1, a2⟩ := hD nd.a ha
    have w1 := hwd _ ha
    have hgk := grp_kinds (show grpC es nd.ex nd.ag (atC pre nd.a) = (c, 0) by simpa [colO, k] using hcol)
    exact en10 S es db cols done nd h ve vd vc vr w hl hdb hc hd hn hU k hs hxo hG ha (rows_oks a2) (fun r hr => key_ok hT (good_val es nd.ex _ hx (a2 r hr).vs) (by unfold valL; rw [List.length_map]; omega)) (by omega) (by omega) (by omega) hgk.2 (cls_lin a2 hZ (by omega))
end Go.Proofs.YtbplapkcleipiaaGreatDoor
