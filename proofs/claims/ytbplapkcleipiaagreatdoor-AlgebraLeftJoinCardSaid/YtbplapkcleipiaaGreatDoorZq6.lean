/- Queries behind two scans with one predicate, in plain lists: what they give; selection and Except, Intersect. -/
import Derived.Test.YtbplapkcleipiaaGreatDoorZz02
import Derived.Test.YtbplapkcleipiaaGreatDoorZz04
import Derived.Test.YtbplapkcleipiaaGreatDoorZz26
import Derived.Test.YtbplapkcleipiaaGreatDoorZq5
namespace Go.Proofs.YtbplapkcleipiaaGreatDoor

def dbp (a b : List R) : List Tb := [⟨⟨[114], [1, 2]⟩, a⟩, ⟨⟨[115], [1, 2]⟩, b⟩]
theorem cols_next {es : List X} {ts : List Tt} {n : Nd} {l : List Nd} {done : List (List Int)} {c : List Int} (h : chkN es ts n done = (c, 0)) : colsQ es ts (n :: l) done = colsQ es ts l (done ++ [c]) := by
  show (if (chkN es ts n done).2 ≠ 0 then _ else _) = _
  rw [h]; rfl
theorem evs_next {es : List X} {db : List Tb} {cols : List (List Int)} {n : Nd} {l : List Nd} {done : List (List R)} {z : List R} (h : evN clsF es db cols n done = z) (hl : z.length ≤ 4096) : evsQ clsF es db cols (n :: l) done = evsQ clsF es db cols l (done ++ [z]) := by
  show (if 4096 < (evN clsF es db cols n done).length then _ else _) = _
  rw [h, if_neg (by omega)]
theorem evq_of {es : List X} {db : List Tb} {l : List Nd} {cols : List (List Int)} {done : List (List R)} {z : List R} (h : colQ es (db.map Tb.t) l = (cols, 0)) (k : evsQ clsF es db cols l [] = (done ++ [z], 0)) : evQ clsF es db l = (sortR z, 0) := by
  unfold evQ
  simp only [h]
  rw [if_neg (by simp)]
  simp only [k]
  rw [if_neg (by simp), List.getLastD_concat]
/-- a scan's columns, a node's behind the scans -/
theorem chk_r (es : List X) (x y : List R) (p : Int) (done : List (List Int)) : chkN es ((dbp x y).map Tb.t) ⟨1, 0, 0, p, [114], [], []⟩ done = ([1, 2], 0) := rfl
theorem chk_s (es : List X) (x y : List R) (p : Int) (done : List (List Int)) : chkN es ((dbp x y).map Tb.t) ⟨1, 0, 0, p, [115], [], []⟩ done = ([1, 2], 0) := rfl
theorem chk_sel (es : List X) (ts : List Tt) (a p : Int) (done : List (List Int)) (ha : isIx a done.length = true) (hc : atC done a = [1, 2]) (hp : prdC es p [1, 2] = ([1, 2], 0)) : chkN es ts ⟨2, a, 0, p, [], [], []⟩ done = ([1, 2], 0) := by
  have e1 : colO es ts ⟨2, a, 0, p, [], [], []⟩ done = ([1, 2], 0) := by
    show prdC es p (atC done a) = _
    rw [hc, hp]
  unfold chkN
  rw [e1, if_neg (by show ¬ inpN 2 = -1; decide), if_neg]
  · rfl
  · show ¬ ((1 ≤ inpN 2 ∧ isIx a done.length = false) ∨ (inpN 2 = 2 ∧ isIx 0 done.length = false))
    rw [ha]
    have h2 : inpN 2 = 1 := rfl
    rw [h2]; simp
theorem chk_two (es : List X) (ts : List Tt) (k a b p : Int) (hk : k = 6 ∨ k = 7 ∨ k = 8) (done : List (List Int)) (ha : isIx a done.length = true) (hb : isIx b done.length = true) (hc : atC done a = [1, 2]) (hd : atC done b = [1, 2]) : chkN es ts ⟨k, a, b, p, [], [], []⟩ done = ([1, 2], 0) := by
  have e1 : colO es ts ⟨k, a, b, p, [], [], []⟩ done = ([1, 2], 0) := by
    have e2 : colO es ts ⟨k, a, b, p, [], [], []⟩ done = cmnC (atC done a) (atC done b) := by rcases hk with rfl | rfl | rfl <;> rfl
    rw [e2, hc, hd]; rfl
  have h2 : inpN k = 2 := by rcases hk with rfl | rfl | rfl <;> rfl
  unfold chkN
  rw [e1, if_neg (by show ¬ inpN k = -1; rw [h2]; decide), if_neg]
  · rfl
  · show ¬ ((1 ≤ inpN k ∧ isIx a done.length = false) ∨ (inpN k = 2 ∧ isIx b done.length = false))
    rw [ha, hb]; simp
theorem chk_join (es : List X) (ts : List Tt) (k a b p : Int) (hk : k = 4 ∨ k = 5) (done : List (List Int)) (ha : isIx a done.length = true) (hb : isIx b done.length = true) (hc : atC done a = [1, 2]) (hd : atC done b = [1, 2]) (hp : prdC es p [1, 2, 1, 2] = ([1, 2, 1, 2], 0)) : chkN es ts ⟨k, a, b, p, [], [], []⟩ done = ([1, 2, 1, 2], 0) := by
  have e1 : colO es ts ⟨k, a, b, p, [], [], []⟩ done = ([1, 2, 1, 2], 0) := by
    have e2 : colO es ts ⟨k, a, b, p, [], [], []⟩ done = prdC es p (atC done a ++ atC done b) := by rcases hk with rfl | rfl <;> rfl
    rw [e2, hc, hd]; exact hp
  have h2 : inpN k = 2 := by rcases hk with rfl | rfl <;> rfl
  unfold chkN
  rw [e1, if_neg (by show ¬ inpN k = -1; rw [h2]; decide), if_neg]
  · rfl
  · show ¬ ((1 ≤ inpN k ∧ isIx a done.length = false) ∨ (inpN k = 2 ∧ isIx b done.length = false))
    rw [ha, hb]; simp
/-- Union, Except, Intersect of two lists -/
def twoL (k : Int) (a b : List R) : List R := if k = 6 then a ++ b else if k = 7 then (clsF R.v (a ++ b)).flatMap (cmbC timE a) else (clsF R.v (a ++ b)).flatMap (cmbC timI a)
theorem ev_two {k : Int} (hk : k = 6 ∨ k = 7 ∨ k = 8) (es : List X) (db : List Tb) (cols : List (List Int)) (a b p : Int) (done : List (List R)) : evN clsF es db cols ⟨k, a, b, p, [], [], []⟩ done = twoL k (atL done a) (atL done b) := by
  rcases hk with rfl | rfl | rfl <;> rfl
/-- the selection behind -/
def pqA (k p : Int) : List Nd := [⟨1, 0, 0, p, [114], [], []⟩, ⟨1, 0, 0, p, [115], [], []⟩, ⟨k, 0, 1, p, [], [], []⟩, ⟨2, 2, 0, p, [], [], []⟩]
/-- the selections first -/
def pqB (k p : Int) : List Nd := [⟨1, 0, 0, p, [114], [], []⟩, ⟨1, 0, 0, p, [115], [], []⟩, ⟨2, 0, 0, p, [], [], []⟩, ⟨2, 1, 0, p, [], [], []⟩, ⟨k, 2, 3, p, [], [], []⟩]
theorem sel_lenP (es : List X) (p : Int) (l : List R) : (selL es p l).length ≤ l.length := List.length_filter_le _ _
theorem pqA_ev {k p : Int} {es : List X} {x y : List R} (hk : k = 6 ∨ k = 7 ∨ k = 8) (he : es.length ≤ 200) (hp : prdC es p [1, 2] = ([1, 2], 0)) (hx : x.length ≤ 4096) (hy : y.length ≤ 4096) (hz : (twoL k x y).length ≤ 4096) : evQ clsF es (dbp x y) (pqA k p) = (sortR (selL es p (twoL k x y)), 0) := by
  refine evq_of (cols := [[1, 2], [1, 2], [1, 2], [1, 2]]) (done := [x, y, twoL k x y]) ?_ ?_
  · unfold colQ
    rw [if_neg (by show ¬ ((pqA k p).length = 0 ∨ 40 < (pqA k p).length ∨ 200 < es.length); unfold pqA; simp; omega)]
    unfold pqA
    rw [cols_next (chk_r es x y p _), cols_next (chk_s es x y p _), cols_next (chk_two es _ k 0 1 p hk _ rfl rfl rfl rfl), cols_next (chk_sel es _ 2 p _ rfl rfl hp)]
    rfl
  · unfold pqA
    rw [evs_next (z := x) rfl hx, evs_next (z := y) rfl hy, evs_next (z := twoL k x y) (ev_two hk es _ _ 0 1 p _) hz, evs_next (z := selL es p (twoL k x y)) rfl (Nat.le_trans (sel_lenP es p _) hz)]
    rfl
theorem pqB_ev {k p : Int} {es : List X} {x y : List R} (hk : k = 6 ∨ k = 7 ∨ k = 8) (he : es.length ≤ 200) (hp : prdC es p [1, 2] = ([1, 2], 0)) (hx : x.length ≤ 4096) (hy : y.length ≤ 4096) (hz : (twoL k (selL es p x) (selL es p y)).length ≤ 4096) : evQ clsF es (dbp x y) (pqB k p) = (sortR (twoL k (selL es p x) (selL es p y)), 0) := by
  refine evq_of (cols := [[1, 2], [1, 2], [1, 2], [1, 2], [1, 2]]) (done := [x, y, selL es p x, selL es p y]) ?_ ?_
  · unfold colQ
    rw [if_neg (by show ¬ ((pqB k p).length = 0 ∨ 40 < (pqB k p).length ∨ 200 < es.length); unfold pqB; simp; omega)]
    unfold pqB
    rw [cols_next (chk_r es x y p _), cols_next (chk_s es x y p _), cols_next (chk_sel es _ 0 p _ rfl rfl hp), cols_next (chk_sel es _ 1 p _ rfl rfl hp), cols_next (chk_two es _ k 2 3 p hk _ rfl rfl rfl rfl)]
    rfl
  · unfold pqB
    rw [evs_next (z := x) rfl hx, evs_next (z := y) rfl hy, evs_next (z := selL es p x) rfl (Nat.le_trans (sel_lenP es p _) hx), evs_next (z := selL es p y) rfl (Nat.le_trans (sel_lenP es p _) hy), evs_next (z := twoL k (selL es p x) (selL es p y)) (ev_two hk es _ _ 2 3 p _) hz]
    rfl
/-- how often values stand in Except, Intersect -/
theorem cmb_at (f : Nat → Nat → Nat) (h0 : f 0 0 = 0) (a b : List R) (v : List V) : cnt ((clsF R.v (a ++ b)).flatMap (cmbC f a)) v = f (cnt a v) (cnt b v) := by
  by_cases h : 0 < cnt (a ++ b) v
  · obtain ⟨c, hc, e, hl⟩ := cls_at h
    rw [cmb_cnt f a v _ (clsF_isC R.v (a ++ b)).nd c hc e, hl, cnt_appR]
    congr 1; omega
  · rw [cnt_appR] at h
    have ha : cnt a v = 0 := by omega
    have hb : cnt b v = 0 := by omega
    rw [ha, hb, h0]
    refine cmb_no f a v _ fun hm => ?_
    obtain ⟨r, hr, e⟩ := List.mem_map.1 (((clsF_isC R.v (a ++ b)).mem v).1 hm)
    have := cnt_pos hr
    rw [e, cnt_appR] at this
    omega
theorem sel_cnt (es : List X) (p : Int) (l : List R) (v : List V) : cnt (selL es p l) v = if hldB es p v = true then cnt l v else 0 := by
  unfold cnt selL
  rw [List.countP_filter]
  by_cases h : hldB es p v = true
  · rw [if_pos h]
    refine List.countP_congr fun r _ => ?_
    simp only [Bool.and_eq_true, decide_eq_true_eq]
    exact ⟨fun ⟨a, _⟩ => a, fun a => ⟨a, by rw [a]; exact h⟩⟩
  · rw [if_neg h, List.countP_eq_zero]
    intro r _ hr
    simp only [Bool.and_eq_true, decide_eq_true_eq] at hr
    exact h (by rw [← hr.1]; exact hr.2)
theorem push_cnt {k : Int} (hk : k = 6 ∨ k = 7 ∨ k = 8) (es : List X) (p : Int) (x y : List R) (v : List V) : cnt (selL es p (twoL k x y)) v = cnt (twoL k (selL es p x) (selL es p y)) v := by
  rw [sel_cnt]
  rcases hk with rfl | rfl | rfl
  · show (if _ then cnt (x ++ y) v else 0) = cnt (selL es p x ++ selL es p y) v
    rw [cnt_appR, cnt_appR, sel_cnt, sel_cnt]; split <;> rfl
  · show (if _ then cnt ((clsF R.v (x ++ y)).flatMap (cmbC timE x)) v else 0) = cnt ((clsF R.v (selL es p x ++ selL es p y)).flatMap (cmbC timE (selL es p x))) v
    rw [cmb_at timE rfl, cmb_at timE rfl, sel_cnt, sel_cnt]; split <;> rfl
  · show (if _ then cnt ((clsF R.v (x ++ y)).flatMap (cmbC timI x)) v else 0) = cnt ((clsF R.v (selL es p x ++ selL es p y)).flatMap (cmbC timI (selL es p x))) v
    rw [cmb_at timI rfl, cmb_at timI rfl, sel_cnt, sel_cnt]; split <;> rfl
theorem push_union (es : List X) (p : Int) (x y : List R) : selL es p (twoL 6 x y) = twoL 6 (selL es p x) (selL es p y) := List.filter_append _ _
/-- no longer than both -/
theorem two_len {k : Int} (hk : k = 6 ∨ k = 7 ∨ k = 8) (x y : List R) : (twoL k x y).length ≤ x.length + y.length := by
  have h := bal_len x y
  rcases hk with rfl | rfl | rfl
  · show (x ++ y).length ≤ _
    rw [List.length_append]; exact Nat.le_refl _
  · show ((clsF R.v (x ++ y)).flatMap (cmbC timE x)).length ≤ _
    omega
  · show ((clsF R.v (x ++ y)).flatMap (cmbC timI x)).length ≤ _
    omega
end Go.Proofs.YtbplapkcleipiaaGreatDoor
/- Bags that agree when the lineage is left out. -/
namespace Go.Proofs.YtbplapkcleipiaaGreatDoor

theorem sur_nil (f : List V → Nat) (l : List R) : sur f l = [] ↔ ∀ v, cnt l v ≤ f v := by
  constructor
  · intro h v
    have := sur_cnt v l f
    rw [h] at this
    have h0 : cnt ([] : List R) v = 0 := rfl
    omega
  · intro h
    cases hs : sur f l with
    | nil => rfl
    | cons x m =>
      have h1 := sur_cnt x.v l f
      rw [hs] at h1
      have h2 := cnt_pos (l := x :: m) (x := x) (by simp)
      have := h x.v
      omega
/-- without the lineage -/
def bare (r : R) : R := ⟨r.v, []⟩
theorem bare_perm (A B : List R) : (A.map bare).Perm (B.map bare) ↔ ∀ v, cnt A v = cnt B v := by
  rw [← perm_cnt]
  have h1 : ∀ l : List R, (l.map bare).map R.v = l.map R.v := fun l => by rw [List.map_map]; rfl
  have h2 : ∀ l : List R, (l.map R.v).map (fun v => (⟨v, []⟩ : R)) = l.map bare := fun l => by rw [List.map_map]; rfl
  constructor
  · intro h; have := h.map R.v; rw [h1, h1] at this; exact this
  · intro h; have := h.map (fun v => (⟨v, []⟩ : R)); rw [h2, h2] at this; exact this
theorem diff_empty (A B : List R) : (sur (cnt B) (sortR A) = [] ∧ sur (cnt A) (sortR B) = []) ↔ sortR (A.map bare) = sortR (B.map bare) := by
  rw [sortR_eq, bare_perm, sur_nil, sur_nil]
  constructor
  · rintro ⟨h1, h2⟩ v
    have a := h1 v
    have b := h2 v
    rw [cnt_perm (sortR_perm A)] at a
    rw [cnt_perm (sortR_perm B)] at b
    omega
  · intro h
    exact ⟨fun v => by rw [cnt_perm (sortR_perm A), h]; exact Nat.le_refl _, fun v => by rw [cnt_perm (sortR_perm B), h]; exact Nat.le_refl _⟩
end Go.Proofs.YtbplapkcleipiaaGreatDoor
/- Left join and inner join, in plain lists. -/
namespace Go.Proofs.YtbplapkcleipiaaGreatDoor

/-- rows without a partner, padded -/
def pads (es : List X) (p : Int) (x y : List R) : List R := (x.filter fun r => decide ((parL es p r y).length = 0)).map (padL 2)
theorem lj_perm (es : List X) (p : Int) (y : List R) : ∀ x : List R, (jnL es p true 2 x y).Perm (jnL es p false 2 x y ++ pads es p x y)
  | [] => List.Perm.refl _
  | r :: x => by
    have ih := lj_perm es p y x
    unfold jnL at ih ⊢
    rw [List.flatMap_cons, List.flatMap_cons]
    by_cases h : (parL es p r y).length = 0
    · have e1 : oneJ es p true 2 y r = [padL 2 r] := by unfold oneJ; rw [if_pos ⟨h, rfl⟩]
      have e2 : oneJ es p false 2 y r = [] := by unfold oneJ; rw [if_neg (by simp)]; exact List.eq_nil_of_length_eq_zero h
      have e3 : pads es p (r :: x) y = padL 2 r :: pads es p x y := by unfold pads; rw [List.filter_cons_of_pos (by simpa using h)]; rfl
      rw [e1, e2, e3]
      exact (List.Perm.cons _ ih).trans List.perm_middle.symm
    · have e1 : oneJ es p true 2 y r = parL es p r y := by unfold oneJ; rw [if_neg (fun c => h c.1)]
      have e2 : oneJ es p false 2 y r = parL es p r y := by unfold oneJ; rw [if_neg (fun c => h c.1)]
      have e3 : pads es p (r :: x) y = pads es p x y := by unfold pads; rw [List.filter_cons_of_neg (by simpa using h)]
      rw [e1, e2, e3, List.append_assoc]
      exact ih.append_left _
theorem lj_cnt (es : List X) (p : Int) (x y : List R) (v : List V) : cnt (jnL es p true 2 x y) v = cnt (jnL es p false 2 x y) v + cnt (pads es p x y) v := by
  rw [cnt_perm (lj_perm es p y x), cnt_appR]
/-- what the left join has beyond the inner join -/
def lstL (es : List X) (p : Int) (x y : List R) : List R := sur (cnt (jnL es p false 2 x y)) (sortR (jnL es p true 2 x y))
theorem lst_cnt (es : List X) (p : Int) (x y : List R) (v : List V) : cnt (lstL es p x y) v = cnt (pads es p x y) v := by
  unfold lstL
  rw [sur_cnt, cnt_perm (sortR_perm _), lj_cnt]
  omega
theorem lst_gain (es : List X) (p : Int) (x y : List R) : sur (cnt (jnL es p true 2 x y)) (sortR (jnL es p false 2 x y)) = [] := by
  rw [sur_nil]
  intro v
  rw [cnt_perm (sortR_perm _), lj_cnt]
  omega
theorem lst_len (es : List X) (p : Int) (x y : List R) : (jnL es p true 2 x y).length = (jnL es p false 2 x y).length + (lstL es p x y).length := by
  have h : ((jnL es p false 2 x y ++ lstL es p x y).map bare).Perm ((jnL es p true 2 x y).map bare) := (bare_perm _ _).2 fun v => by
    rw [cnt_appR, lst_cnt, lj_cnt]
  have := h.length_eq
  rw [List.length_map, List.length_map, List.length_append] at this
  exact this.symm
/-- a row that is lost is a padded row of the left table -/
theorem lst_row {es : List X} {p : Int} {x y : List R} (hx : ∀ r ∈ x, r.v.length = 2) {q : R} (hq : q ∈ lstL es p x y) : ∃ a b, q.v = [a, b, nul, nul] ∧ 0 < cnt x [a, b] := by
  have h1 := cnt_pos hq
  rw [lst_cnt] at h1
  obtain ⟨z, hz, e⟩ := List.countP_pos_iff.1 h1
  have e' : z.v = q.v := by simpa using e
  obtain ⟨r, hr, rfl⟩ := List.mem_map.1 hz
  have hrx := (List.mem_filter.1 hr).1
  have hl := hx r hrx
  obtain ⟨v, t⟩ := r
  match v, hl with
  | [a, b], _ => exact ⟨a, b, e'.symm, cnt_pos hrx⟩
/-- each row of the left table stands in the left join -/
theorem one_pos (es : List X) (p : Int) (y : List R) (r : R) : 0 < (oneJ es p true 2 y r).length := by
  unfold oneJ
  by_cases h : (parL es p r y).length = 0
  · rw [if_pos ⟨h, rfl⟩]; exact Nat.one_pos
  · rw [if_neg (fun c => h c.1)]; omega
theorem one_pre {es : List X} {p : Int} {y : List R} {r z : R} (hr : r.v.length = 2) (hy : ∀ o ∈ y, o.v.length = 2) (hz : z ∈ oneJ es p true 2 y r) : z.v.length = 4 ∧ z.v.take 2 = r.v := by
  unfold oneJ at hz
  by_cases h : (parL es p r y).length = 0
  · rw [if_pos ⟨h, rfl⟩] at hz
    obtain rfl := List.mem_singleton.1 hz
    refine ⟨by show (r.v ++ _).length = 4; rw [List.length_append, List.length_replicate, hr], ?_⟩
    show (r.v ++ List.replicate 2 nul).take 2 = r.v
    rw [List.take_append_of_le_length (by omega), List.take_of_length_le (by omega)]
  · rw [if_neg (fun c => h c.1)] at hz
    obtain ⟨o, ho, rfl⟩ := List.mem_map.1 hz
    have hl := hy o (List.mem_filter.1 ho).1
    refine ⟨by show (r.v ++ o.v).length = 4; rw [List.length_append, hr, hl], ?_⟩
    show (r.v ++ o.v).take 2 = r.v
    rw [List.take_append_of_le_length (by omega), List.take_of_length_le (by omega)]
/-- how many rows begin with the values -/
def preN (l : List R) (v : List V) : Nat := l.countP fun z => decide (z.v.length = 4) && decide (z.v.take 2 = v)
theorem preN_app (a b : List R) (v : List V) : preN (a ++ b) v = preN a v + preN b v := by unfold preN; rw [List.countP_append]
theorem preN_perm {a b : List R} (h : a.Perm b) (v : List V) : preN a v = preN b v := h.countP_eq _
theorem lj_pre (es : List X) (p : Int) (y : List R) (hy : ∀ o ∈ y, o.v.length = 2) (v : List V) : ∀ x : List R, (∀ r ∈ x, r.v.length = 2) → cnt x v ≤ preN (jnL es p true 2 x y) v
  | [], _ => Nat.zero_le _
  | r :: x, h => by
    have ih := lj_pre es p y hy v x fun q hq => h q (List.mem_cons_of_mem _ hq)
    have e : jnL es p true 2 (r :: x) y = oneJ es p true 2 y r ++ jnL es p true 2 x y := by unfold jnL; rw [List.flatMap_cons]
    rw [e, preN_app, cnt_cons]
    by_cases c : r.v = v
    · rw [if_pos c]
      have h1 : preN (oneJ es p true 2 y r) v = (oneJ es p true 2 y r).length := by
        unfold preN
        rw [List.countP_eq_length]
        intro z hz
        have := one_pre (h r (by simp)) hy hz
        rw [c] at this
        simp [this.1, this.2]
      have := one_pos es p y r
      omega
    · rw [if_neg c]; omega
theorem jn_len (es : List X) (p : Int) (left : Bool) (y : List R) : ∀ x : List R, (jnL es p left 2 x y).length ≤ x.length * (y.length + 1)
  | [] => by simp [jnL]
  | r :: x => by
    have ih := jn_len es p left y x
    have e : jnL es p left 2 (r :: x) y = oneJ es p left 2 y r ++ jnL es p left 2 x y := by unfold jnL; rw [List.flatMap_cons]
    have h1 : (oneJ es p left 2 y r).length ≤ y.length + 1 := by
      unfold oneJ
      split
      · simp
      · unfold parL; rw [List.length_map]; exact Nat.le_succ_of_le (List.length_filter_le _ _)
    rw [e, List.length_append, List.length_cons, Nat.add_mul, Nat.one_mul]
    omega
/-- a join behind two scans -/
def jq (k p0 p : Int) : List Nd := [⟨1, 0, 0, p0, [114], [], []⟩, ⟨1, 0, 0, p0, [115], [], []⟩, ⟨k, 0, 1, p, [], [], []⟩]
theorem jq_ev {k p0 p : Int} {es : List X} {x y : List R} (hk : k = 4 ∨ k = 5) (he : es.length ≤ 200) (hp : prdC es p [1, 2, 1, 2] = ([1, 2, 1, 2], 0)) (hx : x.length ≤ 50) (hy : y.length ≤ 50) : evQ clsF es (dbp x y) (jq k p0 p) = (sortR (jnL es p (decide (k = 5)) 2 x y), 0) := by
  have hl : (jnL es p (decide (k = 5)) 2 x y).length ≤ 4096 := by
    have h1 := jn_len es p (decide (k = 5)) y x
    have h2 : x.length * (y.length + 1) ≤ 50 * 51 := Nat.mul_le_mul hx (by omega)
    omega
  refine evq_of (cols := [[1, 2], [1, 2], [1, 2, 1, 2]]) (done := [x, y]) ?_ ?_
  · unfold colQ
    rw [if_neg (by show ¬ ((jq k p0 p).length = 0 ∨ 40 < (jq k p0 p).length ∨ 200 < es.length); unfold jq; simp; omega)]
    unfold jq
    rw [cols_next (chk_r es x y p0 _), cols_next (chk_s es x y p0 _), cols_next (chk_join es _ k 0 1 p hk _ rfl rfl rfl rfl hp)]
    rfl
  · unfold jq
    rw [evs_next (z := x) rfl (by omega), evs_next (z := y) rfl (by omega), evs_next (z := jnL es p (decide (k = 5)) 2 x y) (by rcases hk with rfl | rfl <;> rfl) hl]
    rfl
end Go.Proofs.YtbplapkcleipiaaGreatDoor
/- Two rows of the call's own side by side. -/
namespace Go.Proofs.YtbplapkcleipiaaGreatDoor
open Go.ChangeShapes Go.WideShapes Go.ChangeAt Go.RowKit

/-- rows in different blocks -/
def Sep (v u : Value) : Prop := ∀ g, v.ownBlock = some g → u.ownBlock ≠ some g
theorem Sep.symm {v u : Value} (h : Sep v u) : Sep u v := fun g hg e => h g e hg
theorem Sep.grow {w : World} {v v' u : Value} (h : Sep v u) (k : Loc w v v') (hu : ∀ g, u.ownBlock = some g → g < w.heap.size) : Sep v' u := fun g hg e => by
  rcases k with k | ⟨g', k1, k2⟩
  · exact h g (k.symm.trans hg) e
  · rw [hg] at k1
    injection k1 with k1
    have := hu g e
    omega
theorem Sep.ne {v u : Value} (h : Sep v u) : v.ownBlock = none ∨ v.ownBlock ≠ u.ownBlock := by
  cases hv : v.ownBlock with
  | none => exact .inl rfl
  | some g => exact .inr fun e => h g hv e.symm
theorem OwnG.grw2 {α : Type} [Enc α] {e e2 : TypeId} {W w w' : World} {v : Value} {l : List α} {b : Option Nat} (h : OwnG e W w v l) (k : Grw w w' b) (hb : RowBlk e2 W w b) (hs : v.ownBlock = none ∨ v.ownBlock ≠ b) : OwnG e W w' v l :=
  ⟨owns_grw h.1 k hs, ext_grw h.2 k fun g hg => (hb g hg).1⟩
/-- two rows of the call's own in different blocks -/
structure Duo {α β : Type} [Enc α] [Enc β] (e e2 : TypeId) (W w : World) (v u : Value) (l : List α) (m : List β) : Prop where
  l : OwnG e W w v l
  m : OwnG e2 W w u m
  sep : Sep v u
theorem Duo.nil {α β : Type} [Enc α] [Enc β] (e e2 : TypeId) {W w : World} (h : Ext W w) : Duo e e2 W w (.slice none 0 0) (.slice none 0 0) ([] : List α) ([] : List β) := ⟨OwnG.nil _ _ _ h, OwnG.nil _ _ _ h, fun g hg => by cases hg⟩
theorem Duo.ext {α β : Type} [Enc α] [Enc β] {e e2 : TypeId} {W w w' : World} {v u : Value} {l : List α} {m : List β} (h : Duo e e2 W w v u l m) (k : Ext w w') : Duo e e2 W w' v u l m := ⟨h.l.ext k, h.m.ext k, h.sep⟩
theorem Duo.swap {α β : Type} [Enc α] [Enc β] {e e2 : TypeId} {W w : World} {v u : Value} {l : List α} {m : List β} (h : Duo e e2 W w v u l m) : Duo e2 e W w u v m l := ⟨h.m, h.l, h.sep.symm⟩
/-- the first grows -/
theorem Duo.left {α β : Type} [Enc α] [Enc β] {e e2 : TypeId} {W w w' : World} {v u v' : Value} {l l' : List α} {m : List β} (h : Duo e e2 W w v u l m) (hO : OwnG e W w' v' l') (hg : w.grownBy w' v.ownBlock) (hl : Loc w v v') : Duo e e2 W w' v' u l' m :=
  ⟨hO, h.m.grw2 (grw_by hg) h.l.blk h.sep.symm.ne, h.sep.grow hl h.m.lt⟩
theorem Duo.right {α β : Type} [Enc α] [Enc β] {e e2 : TypeId} {W w w' : World} {v u u' : Value} {l : List α} {m m' : List β} (h : Duo e e2 W w v u l m) (hO : OwnG e2 W w' u' m') (hg : w.grownBy w' u.ownBlock) (hl : Loc w u u') : Duo e e2 W w' v u' l m' :=
  (h.swap.left hO hg hl).swap
end Go.Proofs.YtbplapkcleipiaaGreatDoor
/- The program's Diff. -/
namespace Go.Proofs.YtbplapkcleipiaaGreatDoor
open Go.ChangeShapes Go.WideShapes Go.ChangeAt Go.RowKit

/-- v[i:], as the walk leaves it -/
theorem rd_from {w : World} {g o n cap : Nat} {l : List P} (h : RdG w (.slice (some ⟨g, o, none⟩) n cap) l) (hi : 1 ≤ n) : RdG w (.slice (if cap = 1 then some ⟨g, o, none⟩ else some ⟨g, o + 2, none⟩) (n - 1) (cap - 1)) (l.drop 1) := by
  by_cases hc : cap = 1
  · rw [if_pos hc]
    have hl := h.len
    have hd : l.drop 1 = [] := List.drop_eq_nil_of_le (by omega)
    rw [hd]
    have hn : n = 1 := by omega
    subst hn hc
    exact ⟨_, 0, rfl, Nat.le_refl _, Nat.zero_le _, (fun _ => rfl), fun i h => by simp at h⟩
  · rw [if_neg hc]
    exact h.drop hi
/-- what Diff is about -/
structure DfI (W : World) (SA SB : List R) (vl vg va vb : Value) (wr : World) (L G : List R) (az bz : List P) : Prop where
  l : OwnR W wr vl L
  g : OwnR W wr vg G
  sep : Sep vl vg
  a : RdG W va az
  b : RdG W vb bz
  ia : RdAll W az
  ib : RdAll W bz
  sa : SrtV (rows az)
  sb : SrtV (rows bz)
  el : L ++ sur (cnt (rows bz)) (rows az) = sur (cnt SB) SA
  eg : G ++ sur (cnt (rows az)) (rows bz) = sur (cnt SA) SB
def Small (ps : List P) : Prop := ∀ p ∈ ps, p.r.v.length ≤ 1000000 ∧ p.r.t.length ≤ 1000000
theorem sur_le (f : List V → Nat) (l : List R) : (sur f l).length ≤ l.length := sur_len l f
theorem DfI.lt {W wr w' : World} {SA SB L G : List R} {vl vg va vb vl' va' : Value} {x y : P} {az bz : List P} (h : DfI W SA SB vl vg va vb wr L G (x :: az) (y :: bz)) (hc : cmpR x.r.v y.r.v = -1) (w3 : World) (hE : Ext wr w3)
    (hO : OwnR W w' vl' (L ++ [x.r])) (hg : Grw w3 w' vl.ownBlock) (hl : Loc w3 vl vl') (ha : RdG W va' az) : DfI W SA SB vl' vg va' vb w' (L ++ [x.r]) G az (y :: bz) := by
  have hl3 := h.l.ext hE
  have hg3 := h.g.ext hE
  have hsb : SrtV (y.r :: rows bz) := h.sb
  refine ⟨hO, hg3.grw hg hl3.blk h.sep.symm.ne, h.sep.grow hl hg3.lt, ha, h.b, fun p hp => h.ia p (by simp [hp]), h.ib, (List.pairwise_cons.1 h.sa).2, h.sb, ?_, ?_⟩
  · have := h.el
    rw [show rows (x :: az) = x.r :: rows az from rfl, show rows (y :: bz) = y.r :: rows bz from rfl, sur_lt hc hsb] at this
    rw [List.append_assoc]; exact this
  · have := h.eg
    rw [show rows (x :: az) = x.r :: rows az from rfl, show rows (y :: bz) = y.r :: rows bz from rfl, sur_lt' hc hsb] at this
    exact this
theorem DfI.swap {W wr : World} {SA SB L G : List R} {vl vg va vb : Value} {az bz : List P} (h : DfI W SA SB vl vg va vb wr L G az bz) : DfI W SB SA vg vl vb va wr G L bz az :=
  ⟨h.g, h.l, h.sep.symm, h.b, h.a, h.ib, h.ia, h.sb, h.sa, h.eg, h.el⟩
theorem DfI.same {W wr w' : World} {SA SB L G : List R} {vl vg va vb va' vb' : Value} {x y : P} {az bz : List P} (h : DfI W SA SB vl vg va vb wr L G (x :: az) (y :: bz)) (hc : x.r.v = y.r.v) (hE : Ext wr w') (ha : RdG W va' az) (hb : RdG W vb' bz) : DfI W SA SB vl vg va' vb' w' L G az bz := by
  refine ⟨h.l.ext hE, h.g.ext hE, h.sep, ha, hb, fun p hp => h.ia p (by simp [hp]), fun p hp => h.ib p (by simp [hp]), (List.pairwise_cons.1 h.sa).2, (List.pairwise_cons.1 h.sb).2, ?_, ?_⟩
  · have := h.el
    rw [show rows (x :: az) = x.r :: rows az from rfl, show rows (y :: bz) = y.r :: rows bz from rfl, sur_same hc] at this
    exact this
  · have := h.eg
    rw [show rows (x :: az) = x.r :: rows az from rfl, show rows (y :: bz) = y.r :: rows bz from rfl, sur_same hc.symm] at this
    exact this
/-- how long they may be -/
structure DfS (m : Nat) (L G : List R) (az bz : List P) : Prop where
  l : L.length + az.length ≤ m
  g : G.length + bz.length ≤ m
  sa : Small az
  sb : Small bz
def DfR (W : World) (SA SB : List R) (m : Nat) (vl vg va vb : Value) (wr : World) : Prop := ∃ L G az bz, DfI W SA SB vl vg va vb wr L G az bz ∧ DfS m L G az bz
theorem DfI.fin {W wr : World} {SA SB L G : List R} {vl vg va vb : Value} {az bz : List P} (h : DfI W SA SB vl vg va vb wr L G az bz) (he : az = [] ∨ bz = []) : L ++ rows az = sur (cnt SB) SA ∧ G ++ rows bz = sur (cnt SA) SB := by
  have h1 := h.el
  have h2 := h.eg
  have hz : ∀ l : List R, sur (cnt (rows [])) l = l := fun l => sur_zero l _ fun _ _ => rfl
  have hn : ∀ f, sur f (rows []) = rows [] := fun f => rfl
  rcases he with rfl | rfl
  · rw [hz] at h2; rw [hn] at h1; exact ⟨h1, h2⟩
  · rw [hz] at h1; rw [hn] at h2; exact ⟨h1, h2⟩
theorem crowsE (W0 : World) (a b : List V) (va vb : Value) (w : World) (ha : RdG W0 va a) (hb : RdG W0 vb b) (h : Ext W0 w) : Calls Tryz.prog 37 #[va, vb] w fun e w' => e = .returned (.int .i64 (cmpR a b)) ∧ (∀ b o, b < W0.heap.size → w'.cell? ⟨b, o, none⟩ = W0.cell? ⟨b, o, none⟩) ∧ Ext W0 w' :=
  heldE W0 ((crows_gw a b va vb w (ha.ext h) (hb.ext h)).mono fun _ _ ⟨e, g⟩ => ⟨e, g.ext⟩) h
set_option maxHeartbeats 8000000 in
set_option maxRecDepth 100000 in
theorem bagDiff_prg (ps qs : List P) (va vb : Value) (w : World) (ha : RdG w va ps) (hb : RdG w vb qs) (ia : RdAll w ps) (ib : RdAll w qs) (la : ps.length ≤ 1000000) (lb : qs.length ≤ 1000000) (sa : Small ps) (sb : Small qs) :
    Calls Tryz.prog 18 #[va, vb] w (DP w (sur (cnt (rows qs)) (sortR (rows ps))) (sur (cnt (rows ps)) (sortR (rows qs)))) := by
  have HA := Lib.hid ha
  have HB := Lib.hid hb
  have IA := Lib.hid ia
  have IB := Lib.hid ib
  have LA := Lib.hid la
  have LB := Lib.hid lb
  have SMA := Lib.hid sa
  have SMB := Lib.hid sb
  clear ha hb ia ib la lb sa sb
  go_enter Tryz.func18, Tryz.ntmps18
  go_wp2_with fail
  refine (order_prg ps va w HA.out IA.out LA.out).mono ?_; rintro e w1 ⟨v1, za, rfl, hO, hp, hr⟩
  have HO := Lib.hid hO
  have HP := Lib.hid hp
  have HR := Lib.hid hr
  clear hO hp hr
  go_wp2_with fail
  refine (order_prg qs vb w1 (HB.out.ext HO.out.2) (IB.out.ext HO.out.2) LB.out).mono ?_; rintro e w2 ⟨v2, zb, rfl, hO2, hp2, hr2⟩
  have HO2 := Lib.hid hO2
  have HP2 := Lib.hid hp2
  have HR2 := Lib.hid hr2
  clear hO2 hp2 hr2
  have HW := Lib.hid (HO.out.2.trans HO2.out.2)
  have hn0 : Sep (.slice none 0 0) (.slice none 0 0) := fun g hg => by cases hg
  have hsa : SrtV (rows za) := by rw [HR.out]; exact (sortR_srtd _).vals
  have hsb : SrtV (rows zb) := by rw [HR2.out]; exact (sortR_srtd _).vals
  have hel : ([] : List R) ++ sur (cnt (rows zb)) (rows za) = sur (cnt (sortR (rows qs))) (sortR (rows ps)) := by rw [List.nil_append, HR.out, HR2.out]
  have heg : ([] : List R) ++ sur (cnt (rows za)) (rows zb) = sur (cnt (sortR (rows ps))) (sortR (rows qs)) := by rw [List.nil_append, HR.out, HR2.out]
  have H0 := Lib.hid (show DfI w2 (sortR (rows ps)) (sortR (rows qs)) (.slice none 0 0) (.slice none 0 0) v1 v2 w2 [] [] za zb from
    ⟨OwnR.nil (Ext.refl _), OwnR.nil (Ext.refl _), hn0, HO.out.rd.ext HO2.out.2, HO2.out.rd, fun p hp => (IA.out p (HP.out.mem_iff.1 hp)).ext HW.out, fun p hp => (IB.out p (HP2.out.mem_iff.1 hp)).ext HW.out, hsa, hsb, hel, heg⟩)
  clear hn0 hsa hsb hel heg
  have H1 := Lib.hid (show DfS 1000000 [] [] za zb from ⟨(by have := HP.out.length_eq; have := LA.out; simp; omega), (by have := HP2.out.length_eq; have := LB.out; simp; omega), fun p hp => SMA.out p (HP.out.mem_iff.1 hp), fun p hp => SMB.out p (HP2.out.mem_iff.1 hp)⟩)
  obtain ⟨SA, hSA⟩ : ∃ z, z = sortR (rows ps) := ⟨_, rfl⟩
  obtain ⟨SB, hSB⟩ : ∃ z, z = sortR (rows qs) := ⟨_, rfl⟩
  have hcA : sur (cnt SB) SA = sur (cnt (rows qs)) (sortR (rows ps)) := by rw [hSA, hSB]; exact sur_cong _ _ _ fun x _ => cnt_perm (sortR_perm _) _
  have hcB : sur (cnt SA) SB = sur (cnt (rows ps)) (sortR (rows qs)) := by rw [hSA, hSB]; exact sur_cong _ _ _ fun x _ => cnt_perm (sortR_perm _) _
  have HSA := Lib.hid hcA
  have HSB := Lib.hid hcB
  rw [← hSA, ← hSB] at H0
  clear hcA hcB hSA hSB
  go_wp2_with fail
  go_loopw [4, 5, 6, 7] (DfR w2 SA SB 1000000) (fun _ _ a b _ => lenOf a + lenOf b)
  case atStart => exact ⟨[], [], za, zb, H0.out, H1.out⟩
  case round =>
    obtain ⟨L, G, az, bz, hD, hZ⟩ := hrel
    cases az with
    | nil =>
      obtain ⟨aa, ca, rfl, ha1, ha2⟩ := hD.a.shape
      obtain ⟨ab, cb, rfl, hb1, hb2⟩ := hD.b.shape
      have HEND := Lib.hid (hD.fin (.inl rfl))
      rw [HSA.out, HSB.out] at HEND
      have HD := Lib.hid hD
      have HZ := Lib.hid hZ
      clear hD hZ
      simp only [List.length_nil] at *
      go_wp2_with fail
      refine (copies_prg w2 wr u4 L [] _ HD.out.l HD.out.a HD.out.ia (by have := HZ.out.l; omega) HZ.out.sa).mono ?_; rintro e w3 ⟨v1, rfl, hO3, hG3, hL3⟩
      have HG3 := Lib.hid (HD.out.g.grw hG3 HD.out.l.blk HD.out.sep.symm.ne)
      have HS3 := Lib.hid (HD.out.sep.grow hL3 HD.out.g.lt)
      have HO3 := Lib.hid hO3
      clear hO3 hG3 hL3
      go_wp2_with fail
      refine (copies_prg w2 w3 u5 G bz _ HG3.out HD.out.b HD.out.ib (by have := HZ.out.g; omega) HZ.out.sb).mono ?_; rintro e w4 ⟨v2, rfl, hO4, hG4, hL4⟩
      have HO5 := Lib.hid (HO3.out.grw hG4 HG3.out.blk HS3.out.ne)
      have HO4 := Lib.hid hO4
      clear hO4 hG4 hL4
      go_wp2_with fail
      go_ret2
      obtain ⟨os, p1, p2, p3⟩ := HO5.out.rd
      obtain ⟨ot, r1, r2, r3⟩ := HO4.out.rd
      exact ⟨_, _, os, ot, rfl, ⟨p1, p2, p3.trans HEND.out.1⟩, ⟨r1, r2, r3.trans HEND.out.2⟩, HW.out.trans HO4.out.old⟩
    | cons x az =>
      cases bz with
      | nil =>
        obtain ⟨aa, ca, rfl, ha1, ha2⟩ := hD.a.shape
        obtain ⟨ab, cb, rfl, hb1, hb2⟩ := hD.b.shape
        obtain ⟨n, hn⟩ : ∃ n, n = (x :: az).length := ⟨_, rfl⟩
        have hn1 : (0 : Int) < (n : Int) := by rw [hn, List.length_cons]; omega
        have hn2 : n ≠ 0 := by omega
        rw [← hn] at hD ha1 ⊢
        clear hn
        simp only [List.length_nil] at hD hb1 ⊢
        have HEND := Lib.hid (hD.fin (.inr rfl))
        rw [HSA.out, HSB.out] at HEND
        have HD := Lib.hid hD
        have HZ := Lib.hid hZ
        clear hD hZ
        go_wp2_with fail
        refine (copies_prg w2 wr u4 L (x :: az) _ HD.out.l HD.out.a HD.out.ia (by have := HZ.out.l; omega) HZ.out.sa).mono ?_; rintro e w3 ⟨v1, rfl, hO3, hG3, hL3⟩
        have HG3 := Lib.hid (HD.out.g.grw hG3 HD.out.l.blk HD.out.sep.symm.ne)
        have HS3 := Lib.hid (HD.out.sep.grow hL3 HD.out.g.lt)
        have HO3 := Lib.hid hO3
        clear hO3 hG3 hL3
        go_wp2_with fail
        refine (copies_prg w2 w3 u5 G [] _ HG3.out HD.out.b HD.out.ib (by have := HZ.out.g; omega) HZ.out.sb).mono ?_; rintro e w4 ⟨v2, rfl, hO4, hG4, hL4⟩
        have HO5 := Lib.hid (HO3.out.grw hG4 HG3.out.blk HS3.out.ne)
        have HO4 := Lib.hid hO4
        clear hO4 hG4 hL4
        go_wp2_with fail
        go_ret2
        obtain ⟨os, p1, p2, p3⟩ := HO5.out.rd
        obtain ⟨ot, r1, r2, r3⟩ := HO4.out.rd
        exact ⟨_, _, os, ot, rfl, ⟨p1, p2, p3.trans HEND.out.1⟩, ⟨r1, r2, r3.trans HEND.out.2⟩, HW.out.trans HO4.out.old⟩
      | cons y bz =>
        obtain ⟨aa, ca, rfl, ha1, ha2⟩ := hD.a.shape
        obtain ⟨ab, cb, rfl, hb1, hb2⟩ := hD.b.shape
        obtain ⟨n, hn⟩ : ∃ n, n = (x :: az).length := ⟨_, rfl⟩
        obtain ⟨m, hm⟩ : ∃ m, m = (y :: bz).length := ⟨_, rfl⟩
        have hn1 : 1 ≤ n := by rw [hn, List.length_cons]; omega
        have hm1 : 1 ≤ m := by rw [hm, List.length_cons]; omega
        rw [← hn] at hD ha1 ⊢
        rw [← hm] at hD hb1 ⊢
        clear hn hm
        obtain ⟨g, o, rfl, c0', _⟩ := rd_P hD.a 0 (by simp)
        obtain ⟨g2, o2, rfl, d0', _⟩ := rd_P hD.b 0 (by simp)
        simp only [Nat.zero_mul, Nat.add_zero, List.getElem_cons_zero] at c0' d0'
        have c0 := hD.l.old.keeps c0'
        have d0 := hD.l.old.keeps d0'
        have hix := hD.ia x (by simp)
        have hiy := hD.ib y (by simp)
        have i1 : (0 : Int) < (n : Int) := by omega
        have i2 : (1 : Int) ≤ (n : Int) := by omega
        have i3 : (n : Int) ≤ (ca : Int) := by omega
        have i4 : (1 : Int) ≤ (ca : Int) := by omega
        have j1 : (0 : Int) < (m : Int) := by omega
        have j2 : (1 : Int) ≤ (m : Int) := by omega
        have j3 : (m : Int) ≤ (cb : Int) := by omega
        have j4 : (1 : Int) ≤ (cb : Int) := by omega
        unfold maxLen at ha2 hb2
        clear c0' d0'
        have HTA := Lib.hid (hD.a.take 1 (by simp))
        have HTB := Lib.hid (hD.b.take 1 (by simp))
        have HFA := Lib.hid (rd_from hD.a hn1)
        have HFB := Lib.hid (rd_from hD.b hm1)
        have hcv := fun w' => crowsE wr x.r.v y.r.v _ _ w' (hix.1.ext hD.l.old) (hiy.1.ext hD.l.old)
        have HD := Lib.hid hD
        have HZ := Lib.hid hZ
        clear hD hZ hix hiy
        obtain ⟨⟨xa, xn, xc, xb, xm, xd⟩, xr⟩ := x
        obtain ⟨⟨ya, yn, yc, yb, ym, yd⟩, yr⟩ := y
        simp only [Hd.x] at c0 d0 hcv
        have K0 := Lib.hid c0
        have K1 := Lib.hid d0
        rcases cr_ord.vals xr.v yr.v with hc | hc | hc
        · rw [hc] at hcv
          have HV := Lib.hid hcv
          have HC := Lib.hid hc
          clear hcv hc
          go_wp2_with fail
          go_region_held3 (fun w' => w'.cell? ⟨g, o, none⟩ = some (.slice xa xn xc) ∧ w'.cell? ⟨g2, o2, none⟩ = some (.slice ya yn yc)) (first | exact ⟨K0.out, K1.out⟩ | exact ⟨f0, f1⟩ | go_keep) (first | (go_at_call 37; refine (HV.out _ ?_).mono ?_; (first | assumption | exact Ext.refl _ | exact (Ext.refl _).drew); rintro e w3 ⟨rfl, q0, qG⟩; have f0 := qG.keeps K0.out; have f1 := qG.keeps K1.out))
          all_goals
            go_wp2_with fail
            refine (copies_prg w2 w3 u4 L [(⟨⟨xa, xn, xc, xb, xm, xd⟩, xr⟩ : P)] _ (HD.out.l.ext qG) HTA.out (fun p hp => HD.out.ia p (by rw [List.mem_singleton.1 hp]; simp)) (by have := HZ.out.l; simp at this ⊢; omega) (fun p hp => HZ.out.sa p (by rw [List.mem_singleton.1 hp]; simp))).mono ?_; rintro e w5 ⟨v5, rfl, hO5, hG5, hL5⟩
            have HO5 := Lib.hid hO5
            clear hO5
            go_wp2_with fail
            go_roundw
            case rel => exact ⟨L ++ [xr], G, az, (⟨⟨ya, yn, yc, yb, ym, yd⟩, yr⟩ : P) :: bz, HD.out.lt HC.out w3 qG HO5.out hG5 hL5 (by first | exact HFA.out | (have := HFA.out; simpa using this)), ⟨(by have := HZ.out.l; simp at this ⊢; omega), HZ.out.g, fun p hp => HZ.out.sa p (by simp [hp]), HZ.out.sb⟩⟩
            case measure => simp [lenOf]; omega
        · rw [hc] at hcv
          have HV := Lib.hid hcv
          have HC := Lib.hid ((cr_ord.zero _ _).1 hc)
          clear hcv hc
          go_wp2_with fail
          go_region_held3 (fun w' => w'.cell? ⟨g, o, none⟩ = some (.slice xa xn xc) ∧ w'.cell? ⟨g2, o2, none⟩ = some (.slice ya yn yc)) (first | exact ⟨K0.out, K1.out⟩ | exact ⟨f0, f1⟩ | go_keep) (first | (go_at_call 37; refine (HV.out _ ?_).mono ?_; (first | assumption | exact Ext.refl _ | exact (Ext.refl _).drew); rintro e w3 ⟨rfl, q0, qG⟩; have f0 := qG.keeps K0.out; have f1 := qG.keeps K1.out))
          all_goals
            go_wp2_with fail
            go_quiet (fail)
            go_wp2_with fail
            go_roundw
            case rel => exact ⟨L, G, az, bz, HD.out.same HC.out (show Ext wr (w3.drewN nq) from qG) (by first | exact HFA.out | (have := HFA.out; simpa using this)) (by first | exact HFB.out | (have := HFB.out; simpa using this)), ⟨(by have := HZ.out.l; simp at this ⊢; omega), (by have := HZ.out.g; simp at this ⊢; omega), fun p hp => HZ.out.sa p (by simp [hp]), fun p hp => HZ.out.sb p (by simp [hp])⟩⟩
            case measure => simp [lenOf]; omega
        · rw [hc] at hcv
          have HV := Lib.hid hcv
          have HC := Lib.hid (show cmpR yr.v xr.v = -1 by have := cr_ord.swap xr.v yr.v; omega)
          clear hcv hc
          go_wp2_with fail
          go_region_held3 (fun w' => w'.cell? ⟨g, o, none⟩ = some (.slice xa xn xc) ∧ w'.cell? ⟨g2, o2, none⟩ = some (.slice ya yn yc)) (first | exact ⟨K0.out, K1.out⟩ | exact ⟨f0, f1⟩ | go_keep) (first | (go_at_call 37; refine (HV.out _ ?_).mono ?_; (first | assumption | exact Ext.refl _ | exact (Ext.refl _).drew); rintro e w3 ⟨rfl, q0, qG⟩; have f0 := qG.keeps K0.out; have f1 := qG.keeps K1.out))
          all_goals
            go_wp2_with fail
            refine (copies_prg w2 w3 u5 G [(⟨⟨ya, yn, yc, yb, ym, yd⟩, yr⟩ : P)] _ (HD.out.g.ext qG) HTB.out (fun p hp => HD.out.ib p (by rw [List.mem_singleton.1 hp]; simp)) (by have := HZ.out.g; simp at this ⊢; omega) (fun p hp => HZ.out.sb p (by rw [List.mem_singleton.1 hp]; simp))).mono ?_; rintro e w5 ⟨v5, rfl, hO5, hG5, hL5⟩
            have HO5 := Lib.hid hO5
            clear hO5
            go_wp2_with fail
            go_roundw
            case rel => exact ⟨L, G ++ [yr], (⟨⟨xa, xn, xc, xb, xm, xd⟩, xr⟩ : P) :: az, bz, (HD.out.swap.lt HC.out w3 qG HO5.out hG5 hL5 (by first | exact HFB.out | (have := HFB.out; simpa using this))).swap, ⟨HZ.out.l, (by have := HZ.out.g; simp at this ⊢; omega), HZ.out.sa, fun p hp => HZ.out.sb p (by simp [hp])⟩⟩
            case measure => simp [lenOf]; omega
end Go.Proofs.YtbplapkcleipiaaGreatDoor
