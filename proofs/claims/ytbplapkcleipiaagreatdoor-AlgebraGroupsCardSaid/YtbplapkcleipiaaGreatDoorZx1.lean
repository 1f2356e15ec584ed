/- Groups of rows, grouped again, and distinct rows, in plain lists. -/
import Derived.Test.YtbplapkcleipiaaGreatDoorZy3
import Derived.Test.YtbplapkcleipiaaGreatDoorZy5
import Derived.Test.YtbplapkcleipiaaGreatDoorZy6
namespace Go.Proofs.YtbplapkcleipiaaGreatDoor

def gx (c : Int) : List X := [⟨2, 0, 0, c, nul⟩, ⟨2, 0, 0, 0, nul⟩]
def gq1 : List Nd := [⟨1, 0, 0, 0, [114], [], []⟩, ⟨10, 0, 0, 0, [], [0], [(1, 0)]⟩]
def gq2 : List Nd := [⟨1, 0, 0, 0, [114], [], []⟩, ⟨10, 0, 0, 0, [], [0], [(1, 0)]⟩, ⟨10, 1, 0, 0, [], [1], [(1, 0)]⟩]
def gq3 : List Nd := [⟨1, 0, 0, 0, [114], [], []⟩, ⟨9, 0, 0, 0, [], [], []⟩]
def gf (c : Int) (p : Int) (r : R) : List V := valL (gx c) [p] r.v
def G1 (c : Int) (x : List R) : List R := (clsF (gf c 0) x).map (grpR (gx c) [(1, 0)])
def G2 (c : Int) (x : List R) : List R := (clsF (gf c 1) (G1 c x)).map (grpR (gx c) [(1, 0)])
def D1 (x : List R) : List R := (clsF R.v x).map oneD
theorem g_row (es : List X) (c : Cl) : grpR es [(1, 0)] c = ⟨c.1 ++ [⟨1, (c.2.length : Int), []⟩], linR c.2⟩ := rfl
theorem g_col (c : Int) (hc : c = 0 ∨ c = 1) (x : List R) : colQ (gx c) ((dbs x []).map Tb.t) gq1 = ([[1, 2], [if c = 0 then 1 else 2, 1]], 0) ∧ colQ (gx c) ((dbs x []).map Tb.t) gq2 = ([[1, 2], [if c = 0 then 1 else 2, 1], [if c = 0 then 1 else 2, 1]], 0) ∧ colQ [] ((dbs x []).map Tb.t) gq3 = ([[1, 2], [1, 2]], 0) := by
  show colQ (gx c) [⟨[114], [1, 2]⟩, ⟨[115], [1, 2]⟩] gq1 = _ ∧ colQ (gx c) [⟨[114], [1, 2]⟩, ⟨[115], [1, 2]⟩] gq2 = _ ∧ colQ [] [⟨[114], [1, 2]⟩, ⟨[115], [1, 2]⟩] gq3 = _
  rcases hc with rfl | rfl <;> decide
theorem g_len (f : R → List V) (x : List R) : (clsF f x).length ≤ x.length := cls_len f x
theorem oneC_ex (p : Int) (cs : List Cl) : oneC [p] cs = cs := by unfold oneC; rw [if_neg (by simp)]
theorem g_ev1 (c : Int) (hc : c = 0 ∨ c = 1) (x : List R) (hx : x.length ≤ 4096) : evQ clsF (gx c) (dbs x []) gq1 = (sortR (G1 c x), 0) := by
  have hl : (G1 c x).length ≤ 4096 := by unfold G1; rw [List.length_map]; exact Nat.le_trans (cls_len _ _) hx
  unfold evQ
  simp only [(g_col c hc x).1]
  rw [if_neg (by simp)]
  generalize ([[1, 2], [if c = 0 then 1 else 2, 1]] : List (List Int)) = cols
  have e1 : evN clsF (gx c) (dbs x []) cols ⟨1, 0, 0, 0, [114], [], []⟩ [] = x := rfl
  have e2 : evN clsF (gx c) (dbs x []) cols ⟨10, 0, 0, 0, [], [0], [(1, 0)]⟩ [x] = G1 c x := by
    show (oneC [0] (clsF (gf c 0) x)).map (grpR (gx c) [(1, 0)]) = _
    rw [oneC_ex]; rfl
  have e : evsQ clsF (gx c) (dbs x []) cols gq1 [] = ([x, G1 c x], 0) := by
    have s1 : evsQ clsF (gx c) (dbs x []) cols gq1 [] = evsQ clsF (gx c) (dbs x []) cols [⟨10, 0, 0, 0, [], [0], [(1, 0)]⟩] [x] := by
      unfold gq1
      rw [evsQ_step, e1, if_neg (by omega)]; rfl
    rw [s1, evsQ_step, e2, if_neg (by omega)]; rfl
  rw [e]; rfl
theorem g_ev2 (c : Int) (hc : c = 0 ∨ c = 1) (x : List R) (hx : x.length ≤ 4096) : evQ clsF (gx c) (dbs x []) gq2 = (sortR (G2 c x), 0) := by
  have hl : (G1 c x).length ≤ 4096 := by unfold G1; rw [List.length_map]; exact Nat.le_trans (cls_len _ _) hx
  have hl2 : (G2 c x).length ≤ 4096 := by unfold G2; rw [List.length_map]; exact Nat.le_trans (cls_len _ _) hl
  unfold evQ
  simp only [(g_col c hc x).2.1]
  rw [if_neg (by simp)]
  generalize ([[1, 2], [if c = 0 then 1 else 2, 1], [if c = 0 then 1 else 2, 1]] : List (List Int)) = cols
  have e1 : evN clsF (gx c) (dbs x []) cols ⟨1, 0, 0, 0, [114], [], []⟩ [] = x := rfl
  have e2 : evN clsF (gx c) (dbs x []) cols ⟨10, 0, 0, 0, [], [0], [(1, 0)]⟩ [x] = G1 c x := by
    show (oneC [0] (clsF (gf c 0) x)).map (grpR (gx c) [(1, 0)]) = _
    rw [oneC_ex]; rfl
  have e3 : evN clsF (gx c) (dbs x []) cols ⟨10, 1, 0, 0, [], [1], [(1, 0)]⟩ [x, G1 c x] = G2 c x := by
    show (oneC [1] (clsF (gf c 1) (G1 c x))).map (grpR (gx c) [(1, 0)]) = _
    rw [oneC_ex]; rfl
  have e : evsQ clsF (gx c) (dbs x []) cols gq2 [] = ([x, G1 c x, G2 c x], 0) := by
    have s1 : evsQ clsF (gx c) (dbs x []) cols gq2 [] = evsQ clsF (gx c) (dbs x []) cols [⟨10, 0, 0, 0, [], [0], [(1, 0)]⟩, ⟨10, 1, 0, 0, [], [1], [(1, 0)]⟩] [x] := by
      unfold gq2
      rw [evsQ_step, e1, if_neg (by omega)]; rfl
    have s2 : evsQ clsF (gx c) (dbs x []) cols [⟨10, 0, 0, 0, [], [0], [(1, 0)]⟩, ⟨10, 1, 0, 0, [], [1], [(1, 0)]⟩] [x] = evsQ clsF (gx c) (dbs x []) cols [⟨10, 1, 0, 0, [], [1], [(1, 0)]⟩] [x, G1 c x] := by
      rw [evsQ_step, e2, if_neg (by omega)]; rfl
    rw [s1, s2, evsQ_step, e3, if_neg (by omega)]; rfl
  rw [e]; rfl
theorem g_ev3 (x : List R) (hx : x.length ≤ 4096) : evQ clsF [] (dbs x []) gq3 = (sortR (D1 x), 0) := by
  have hl : (D1 x).length ≤ 4096 := by unfold D1; rw [List.length_map]; exact Nat.le_trans (cls_len _ _) hx
  unfold evQ
  simp only [(g_col 0 (.inl rfl) x).2.2]
  rw [if_neg (by simp)]
  generalize ([[1, 2], [1, 2]] : List (List Int)) = cols
  have e1 : evN clsF [] (dbs x []) cols ⟨1, 0, 0, 0, [114], [], []⟩ [] = x := rfl
  have e2 : evN clsF [] (dbs x []) cols ⟨9, 0, 0, 0, [], [], []⟩ [x] = D1 x := rfl
  have e : evsQ clsF [] (dbs x []) cols gq3 [] = ([x, D1 x], 0) := by
    have s1 : evsQ clsF [] (dbs x []) cols gq3 [] = evsQ clsF [] (dbs x []) cols [⟨9, 0, 0, 0, [], [], []⟩] [x] := by
      unfold gq3
      rw [evsQ_step, e1, if_neg (by omega)]; rfl
    rw [s1, evsQ_step, e2, if_neg (by omega)]; rfl
  rw [e]; rfl
/- counts -/
def cntV (r : R) : Int := (r.v.getD 1 nul).n
/-- the sizes of the classes add up -/
theorem cls_sum (f : R → List V) (l : List R) : ((clsF f l).map fun c => c.2.length).sum = l.length := by
  have hi := clsF_isC f l
  have h1 : ∀ cs : List Cl, (∀ c ∈ cs, c.2.length = (l.map f).count c.1) → (cs.map fun c => c.2.length).sum = (cs.map fun c => (l.map f).count c.1).sum := fun cs h => by
    rw [List.map_congr_left h]
  rw [h1 _ fun c hc => by rw [(hi.cls c hc).length_eq, ← List.countP_eq_length_filter, List.count, List.countP_map]; exact List.countP_congr fun r _ => by simp]
  have h2 : ∀ (m : List (List V)) (cs : List Cl), (cs.map Prod.fst).Nodup → (∀ v ∈ m, v ∈ cs.map Prod.fst) → (cs.map fun c => m.count c.1).sum = m.length := by
    intro m
    induction m with
    | nil =>
      intro cs _ _
      have z : ∀ cs : List Cl, (cs.map fun c => ([] : List (List V)).count c.1).sum = 0 := fun cs => by
        induction cs with
        | nil => rfl
        | cons c cs ih => rw [List.map_cons, List.sum_cons, ih, List.count_nil]
      rw [z]; rfl
    | cons v m ih =>
      intro cs hn hm
      have i1 := ih cs hn fun u hu => hm u (List.mem_cons_of_mem _ hu)
      have i2 := keys_one v cs hn (hm v (by simp))
      have e : ∀ cs : List Cl, (cs.map fun c => (v :: m).count c.1).sum = (cs.map fun c => m.count c.1).sum + (cs.map fun c => if v = c.1 then 1 else 0).sum := fun cs => by
        induction cs with
        | nil => rfl
        | cons c cs ih =>
          simp only [List.map_cons, List.sum_cons, ih]
          have : (v :: m).count c.1 = m.count c.1 + if v = c.1 then 1 else 0 := by rw [List.count_cons]; simp
          omega
      rw [e, i1, i2]; rfl
  rw [h2 (l.map f) (clsF f l) hi.nd fun v hv => (hi.mem v).2 hv, List.length_map]
theorem nodup_one (v : List V) : ∀ l : List (List V), l.Nodup → v ∈ l → l.count v = 1
  | [], _, h => by cases h
  | u :: l, hn, h => by
    rw [List.nodup_cons] at hn
    rw [List.count_cons]
    by_cases e : u = v
    · subst e
      rw [List.count_eq_zero.2 hn.1]; simp
    · rw [nodup_one v l hn.2 (by rcases List.mem_cons.1 h with h | h; exact absurd h.symm e; exact h)]
      simp [e]
theorem gf_len {c p : Int} {x : List R} {d : Cl} (hd : d ∈ clsF (gf c p) x) : ∃ u, d.1 = [u] := by
  obtain ⟨⟨r, _, e⟩, _⟩ := cls_mem hd
  exact ⟨_, e.symm.trans rfl⟩
theorem g1_row {c : Int} {x : List R} {r : R} (h : r ∈ G1 c x) : ∃ (u : V) (n : Nat), r.v = [u, ⟨1, (n : Int), []⟩] := by
  obtain ⟨d, hd, rfl⟩ := List.mem_map.1 h
  obtain ⟨u, hu⟩ := gf_len hd
  exact ⟨u, _, by rw [g_row, hu]; rfl⟩
def gsum (l : List R) : Nat := (l.map fun r => (cntV r).toNat).sum
theorem gsum_step (l : List R) (k : Nat) (h : k < l.length) : gsum (l.take (k + 1)) = gsum (l.take k) + (cntV l[k]).toNat := by
  unfold gsum
  rw [List.take_succ_eq_append_getElem h, List.map_append, List.sum_append]; simp
theorem gsum_le (l : List R) (k : Nat) : gsum (l.take k) ≤ gsum l := by
  unfold gsum
  have e : (l.map fun r => (cntV r).toNat).sum = ((l.take k).map fun r => (cntV r).toNat).sum + ((l.drop k).map fun r => (cntV r).toNat).sum := by rw [← List.sum_append, ← List.map_append, List.take_append_drop]
  omega
theorem gsum_perm {a b : List R} (h : a.Perm b) : gsum a = gsum b := by
  unfold gsum
  have : ∀ {a b : List Nat}, a.Perm b → a.sum = b.sum := fun {a b} h => by
    induction h with
    | nil => rfl
    | cons x _ ih => simp [ih]
    | swap x y l => simp; omega
    | trans _ _ h1 h2 => exact h1.trans h2
  exact this (h.map _)
theorem g1_sum (c : Int) (x : List R) : gsum (G1 c x) = x.length := by
  have h := cls_sum (gf c 0) x
  have key : ∀ cs : List Cl, (∀ d ∈ cs, ∃ u, d.1 = [u]) → gsum (cs.map (grpR (gx c) [(1, 0)])) = (cs.map fun d => d.2.length).sum := fun cs => by
    induction cs with
    | nil => intro _; rfl
    | cons d cs ih =>
      intro hd
      obtain ⟨u, hu⟩ := hd d (by simp)
      have i := ih fun e he => hd e (List.mem_cons_of_mem _ he)
      have e1 : (cntV (grpR (gx c) [(1, 0)] d)).toNat = d.2.length := by rw [g_row, hu]; rfl
      unfold gsum at i ⊢
      simp only [List.map_cons, List.sum_cons, i, e1]
  unfold G1
  rw [key _ (fun d hd => gf_len hd), h]
/-- keys of groups, read again -/
theorem g1_key {c : Int} {x : List R} {d : Cl} (hd : d ∈ clsF (gf c 0) x) : gf c 1 (grpR (gx c) [(1, 0)] d) = d.1 := by
  obtain ⟨u, hu⟩ := gf_len hd
  rw [g_row, hu]; rfl
theorem g1_keys (c : Int) (x : List R) : (G1 c x).map (gf c 1) = (clsF (gf c 0) x).map Prod.fst := by
  unfold G1
  rw [List.map_map]
  exact List.map_congr_left fun d hd => g1_key hd
theorem g2_len (c : Int) (x : List R) : (G2 c x).length = (G1 c x).length := by
  have hi := clsF_isC (gf c 1) (G1 c x)
  have hn := (clsF_isC (gf c 0) x).nd
  have hp : ((clsF (gf c 1) (G1 c x)).map Prod.fst).Perm ((clsF (gf c 0) x).map Prod.fst) := (List.perm_ext_iff_of_nodup hi.nd hn).2 fun v => by rw [hi.mem v, g1_keys]
  have h := hp.length_eq
  unfold G2 G1 at *
  simp only [List.length_map] at h ⊢
  exact h
theorem g2_row {c : Int} {x : List R} {r : R} (h : r ∈ G2 c x) : ∃ u, r.v = [u, ⟨1, 1, []⟩] := by
  obtain ⟨d, hd, rfl⟩ := List.mem_map.1 h
  obtain ⟨u, hu⟩ := gf_len hd
  have hi := clsF_isC (gf c 1) (G1 c x)
  have hn := (clsF_isC (gf c 0) x).nd
  have h1 : d.2.length = 1 := by
    rw [(hi.cls d hd).length_eq, ← List.countP_eq_length_filter]
    have h2 : ((G1 c x).map (gf c 1)).count d.1 = 1 := by
      rw [g1_keys]
      refine nodup_one _ _ hn ?_
      rw [← g1_keys]
      exact (hi.mem d.1).1 (List.mem_map_of_mem hd)
    rw [← h2, List.count, List.countP_map]
    exact List.countP_congr fun r _ => by simp
  exact ⟨u, by rw [g_row, hu, h1]; rfl⟩
theorem d1_row {x : List R} {r : R} (h : r ∈ D1 x) : cnt (D1 x) r.v = 1 ∧ 0 < cnt x r.v := by
  obtain ⟨d, hd, rfl⟩ := List.mem_map.1 h
  have hi := clsF_isC R.v x
  constructor
  · have h2 : ((clsF R.v x).map Prod.fst).count d.1 = 1 := nodup_one _ _ hi.nd (List.mem_map_of_mem hd)
    show cnt ((clsF R.v x).map oneD) d.1 = 1
    rw [← h2]
    unfold cnt List.count
    rw [List.countP_map, List.countP_map]
    exact List.countP_congr fun r _ => by
      show (decide (r.1 = d.1) = true ↔ (r.1 == d.1) = true)
      rw [beq_iff_eq, decide_eq_true_iff]
  · obtain ⟨q, hq, e⟩ := List.mem_map.1 ((hi.mem d.1).1 (List.mem_map_of_mem hd))
    show 0 < cnt x d.1
    rw [← e]; exact cnt_pos hq
end Go.Proofs.YtbplapkcleipiaaGreatDoor
/- The law AlgebraBalance. -/
namespace Go.Proofs.YtbplapkcleipiaaGreatDoor
open Go.ChangeShapes Go.WideShapes Go.ChangeAt Go.RowKit

theorem pz0_good : GoodX 10 pz0 := fun x hx => by
  simp only [pz0, List.mem_cons, List.not_mem_nil, or_false] at hx
  rcases hx with rfl | rfl <;> exact good_nul 10
theorem bal_eval (k : Int) (hk : k = 6 ∨ k = 7 ∨ k = 8) (x y z : List R) (vn ve vd : Value) (w : World) (hG : PT w) (hn : RdN w vn (qz0 k 0 1)) (he : RdG w ve pz0) (hd : RdB9 UU w vd (dbs x y)) (hx : RowsB 10 Z5 6 x) (hy : RowsB 10 Z5 6 y) (hxl : x.length ≤ 4096) (hyl : y.length ≤ 4096)
    (hz : evN clsF pz0 (dbs x y) [[1, 2], [1, 2], [1, 2]] ⟨k, 0, 1, 1, [], [], []⟩ [x, y] = z) (hzl : z.length ≤ 4096) : Calls Tryz.prog 12 #[.agg #[vn, ve], vd] w (SoP z w) :=
  (evQ_prg UU 10 Z5 pz0 (qz0 k 0 1) (dbs x y) vn ve vd w hn he hd (up_UU _) hG pz0_good (by omega) (by simp [Z5]) (dbs_bd hx hy) (fun n hn => by
    simp only [qz0, List.mem_cons, List.not_mem_nil, or_false] at hn
    rcases hn with rfl | rfl | rfl <;> simp) (by simp [dbs])).mono fun _ _ h => ev_so h (bq_ev x y k hk hxl hyl z hz hzl)
set_option maxHeartbeats 8000000 in
set_option maxRecDepth 100000 in
theorem law_AlgebraBalance (l1 l2 : List Five) (v1 v2 : Value) (w : World) (hG : PT w) (h1 : RdG w v1 l1) (h2 : RdG w v2 l2) (ok1 : ∀ x ∈ l1, x.ok) (ok2 : ∀ x ∈ l2, x.ok) :
    Calls Tryz.prog 5 #[v1, v2] w fun e w' => e = .returned (.bool true) ∧ Ext w w' := by
  have HR1 := Lib.hid (rows_law 8 (by omega) l1 v1 w h1 ok1)
  have HR2 := Lib.hid (fun w' (hE : Ext w w') => rows_law 8 (by omega) l2 v2 w' (h2.ext hE) ok2)
  have HND := Lib.hid (fun k vl w' hl => nodes0_prg k 0 1 vl w' hl)
  have HG := Lib.hid hG
  obtain ⟨a1, c1, rfl, _, _⟩ := h1.shape
  obtain ⟨a2, c2, rfl, _, _⟩ := h2.shape
  clear h1 h2 ok1 ok2 hG
  go_enter Tryz.func5, Tryz.ntmps5
  go_wp2_with fail
  refine HR1.out.mono ?_; rintro e w1 ⟨x1, ps, rfl, p1, p2, p3, p4, hE1⟩
  have HP := Lib.hid p1
  have HPA := Lib.hid p2
  have HP3 := Lib.hid p3
  have HP4 := Lib.hid p4
  have HE1 := Lib.hid hE1
  obtain ⟨xa, xc, rfl, _, _⟩ := p1.shape
  clear p1 p2 p3 p4 hE1
  go_wp2_with fail
  refine (HR2.out _ HE1.out).mono ?_; rintro e w2 ⟨x2, qs, rfl, q1, q2, q3, q4, hE2⟩
  have HQ := Lib.hid q1
  have HQA := Lib.hid q2
  have HQ3 := Lib.hid q3
  have HQ4 := Lib.hid q4
  have HE2 := Lib.hid hE2
  have HE02 := Lib.hid (HE1.out.trans hE2)
  obtain ⟨ya, yc, rfl, _, _⟩ := q1.shape
  clear q1 q2 q3 q4 hE2
  go_wp2_with fail
  refine (rowdb_prg (rows ps) (rows qs) _ _ w2 (rdR_of (HP.out.ext HE2.out) (fun p hp => (HPA.out p hp).ext HE2.out)) (rdR_of HQ.out HQA.out)).mono ?_; rintro e w3 ⟨vd, rfl, hd, hE3⟩
  have HD := Lib.hid hd
  have HE03 := Lib.hid (HE02.out.trans hE3)
  have HE23 := Lib.hid hE3
  obtain ⟨da, dc, rfl, _, _⟩ := hd.shape
  have HXL := Lib.hid (show (rows ps).length ≤ 8 by rw [rows_len]; exact HP3.out)
  have HYL := Lib.hid (show (rows qs).length ≤ 8 by rw [rows_len]; exact HQ3.out)
  have HEV := Lib.hid (fun (k : Int) (hk : k = 6 ∨ k = 7 ∨ k = 8) (z : List R) (vn ve : Value) (w' : World) (hE : Ext w3 w') (hn : RdN w' vn (qz0 k 0 1)) (he : RdG w' ve pz0) (hz : evN clsF pz0 (dbs (rows ps) (rows qs)) [[1, 2], [1, 2], [1, 2]] ⟨k, 0, 1, 1, [], [], []⟩ [rows ps, rows qs] = z) (hzl : z.length ≤ 4096) =>
    bal_eval k hk (rows ps) (rows qs) z vn ve _ w' (HG.out.ext (HE03.out.trans hE)) hn he (HD.out.ext hE) (gd_rows HP4.out) (gd_rows HQ4.out) (by have := HXL.out; omega) (by have := HYL.out; omega) hz hzl)
  have HBL := Lib.hid (bal_len (rows ps) (rows qs))
  clear hd hE3
  go_wp2_with fail
  refine (HND.out 7 _ _ (rd_litG w3 ([⟨hd0, ⟨7, 0, 1, 0, [], [], []⟩⟩] : List NdP) #[.int .i64 7, .int .i64 0, .int .i64 1, .int .i64 0, sv [], .slice none 0 0, .slice none 0 0] 45 _ 1 rfl rfl (by simp) rfl)).mono ?_; rintro e w4 ⟨vnD, veD, rfl, hnD, heD, hE'⟩
  have HEaD := Lib.hid (show Ext w3 w4 from ((Ext.refl w3).alloc _ _).trans hE')
  have HEnD := Lib.hid (show Ext w3 w4 from ((Ext.refl w3).alloc _ _).trans hE')
  have HNqD := Lib.hid hnD
  have HXD := Lib.hid heD
  clear hE' hnD heD
  go_wp2_with fail
  refine (HEV.out 7 (by simp) ((clsF R.v (rows ps ++ rows qs)).flatMap (cmbC timE (rows ps))) vnD veD w4 HEaD.out HNqD.out HXD.out (bq_exc _ _) (by have := HBL.out; have := HXL.out; omega)).mono ?_; rintro e w5 ⟨aD, cD, ds, rfl, rD1, rD2, rD3, hE'⟩
  have HED := Lib.hid (show Ext w3 w5 from HEaD.out.trans hE')
  have HRD := Lib.hid rD1
  have HAD := Lib.hid rD2
  have HSD := Lib.hid rD3
  have HEcD := Lib.hid (HEnD.out.trans hE')
  clear hE' rD1 rD2 rD3
  go_wp2_with fail
  refine (HND.out 8 _ _ (rd_litG w5 ([⟨hd0, ⟨8, 0, 1, 0, [], [], []⟩⟩] : List NdP) #[.int .i64 8, .int .i64 0, .int .i64 1, .int .i64 0, sv [], .slice none 0 0, .slice none 0 0] 45 _ 1 rfl rfl (by simp) rfl)).mono ?_; rintro e w6 ⟨vnM, veM, rfl, hnM, heM, hE'⟩
  have HEaM := Lib.hid (show Ext w3 w6 from (HED.out.alloc _ _).trans hE')
  have HEnM := Lib.hid (show Ext w5 w6 from ((Ext.refl w5).alloc _ _).trans hE')
  have HNqM := Lib.hid hnM
  have HXM := Lib.hid heM
  clear hE' hnM heM
  go_wp2_with fail
  refine (HEV.out 8 (by simp) ((clsF R.v (rows ps ++ rows qs)).flatMap (cmbC timI (rows ps))) vnM veM w6 HEaM.out HNqM.out HXM.out (bq_int _ _) (by have := HBL.out; have := HXL.out; omega)).mono ?_; rintro e w7 ⟨aM, cM, ms, rfl, rM1, rM2, rM3, hE'⟩
  have HEM := Lib.hid (show Ext w3 w7 from HEaM.out.trans hE')
  have HRM := Lib.hid rM1
  have HAM := Lib.hid rM2
  have HSM := Lib.hid rM3
  have HEcM := Lib.hid (HEnM.out.trans hE')
  clear hE' rM1 rM2 rM3
  go_wp2_with fail
  refine (HND.out 6 _ _ (rd_litG w7 ([⟨hd0, ⟨6, 0, 1, 0, [], [], []⟩⟩] : List NdP) #[.int .i64 6, .int .i64 0, .int .i64 1, .int .i64 0, sv [], .slice none 0 0, .slice none 0 0] 45 _ 1 rfl rfl (by simp) rfl)).mono ?_; rintro e w8 ⟨vnU, veU, rfl, hnU, heU, hE'⟩
  have HEaU := Lib.hid (show Ext w3 w8 from (HEM.out.alloc _ _).trans hE')
  have HEnU := Lib.hid (show Ext w7 w8 from ((Ext.refl w7).alloc _ _).trans hE')
  have HNqU := Lib.hid hnU
  have HXU := Lib.hid heU
  clear hE' hnU heU
  go_wp2_with fail
  refine (HEV.out 6 (by simp) (rows ps ++ rows qs) vnU veU w8 HEaU.out HNqU.out HXU.out (bq_union _ _) (by rw [List.length_append]; have := HXL.out; have := HYL.out; omega)).mono ?_; rintro e w9 ⟨aU, cU, us, rfl, rU1, rU2, rU3, hE'⟩
  have HEU := Lib.hid (show Ext w3 w9 from HEaU.out.trans hE')
  have HRU := Lib.hid rU1
  have HAU := Lib.hid rU2
  have HSU := Lib.hid rU3
  have HEcU := Lib.hid (HEnU.out.trans hE')
  clear hE' rU1 rU2 rU3
  go_wp2_with fail
  have HPW := Lib.hid (HP.out.ext (HE2.out.trans (HE23.out.trans HEU.out)))
  have HPAW := Lib.hid (show RdAll w9 ps from fun p hp => (HPA.out p hp).ext (HE2.out.trans (HE23.out.trans HEU.out)))
  have HQW := Lib.hid (HQ.out.ext (HE23.out.trans HEU.out))
  have HQAW := Lib.hid (show RdAll w9 qs from fun p hp => (HQA.out p hp).ext (HE23.out.trans HEU.out))
  have HDW := Lib.hid (HRD.out.ext (HEcM.out.trans HEcU.out))
  have HDAW := Lib.hid (show RdAll w9 ds from fun p hp => (HAD.out p hp).ext (HEcM.out.trans HEcU.out))
  have HMW := Lib.hid (HRM.out.ext HEcU.out)
  have HMAW := Lib.hid (show RdAll w9 ms from fun p hp => (HAM.out p hp).ext HEcU.out)
  have HUW := Lib.hid HRU.out
  have HLU := Lib.hid (show us.length = ps.length + qs.length by have h := congrArg List.length HSU.out; rw [rows_len, sortR_len, List.length_append, rows_len, rows_len] at h; exact h)
  have HLD := Lib.hid (show ds.length + ms.length = ps.length by
    have h := congrArg List.length HSD.out
    have h2 := congrArg List.length HSM.out
    rw [rows_len, sortR_len] at h h2
    have h3 := HBL.out
    rw [rows_len] at h3; omega)
  have HCN := Lib.hid (show ∀ p ∈ us, cnt (rows ds) p.r.v + cnt (rows ms) p.r.v = cnt (rows ps) p.r.v ∧ cnt (rows us) p.r.v = cnt (rows ps) p.r.v + cnt (rows qs) p.r.v ∧ cnt (rows us) p.r.v ≤ 16 from fun p hp => by
    have hm : p.r ∈ rows us := List.mem_map_of_mem hp
    have h0 : 0 < cnt (rows ps ++ rows qs) p.r.v := by
      rw [HSU.out] at hm
      exact cnt_pos ((sortR_perm _).mem_iff.1 hm)
    have h1 := bal_cnt (rows ps) (rows qs) p.r.v h0
    have e1 := cnt_perm (sortR_perm ((clsF R.v (rows ps ++ rows qs)).flatMap (cmbC timE (rows ps)))) p.r.v
    have e2 := cnt_perm (sortR_perm ((clsF R.v (rows ps ++ rows qs)).flatMap (cmbC timI (rows ps)))) p.r.v
    have e3 := cnt_perm (sortR_perm (rows ps ++ rows qs)) p.r.v
    rw [← HSD.out] at e1
    rw [← HSM.out] at e2
    rw [← HSU.out, cnt_app] at e3
    have l1 := cnt_le (rows ps) p.r.v
    have l2 := cnt_le (rows qs) p.r.v
    have := HXL.out
    have := HYL.out
    omega)
  obtain ⟨un, hun⟩ : ∃ un, un = us.length := ⟨_, rfl⟩
  have HUN := Lib.hid hun
  rw [← hun] at HUW ⊢
  have hub : un ≤ 16 := by have := HUN.out; have := HLU.out; have := HP3.out; have := HQ3.out; omega
  clear hun
  go_loopw [52] (fun i wr => ∃ k : Nat, k ≤ un ∧ i = .int .i64 k ∧ Ext w9 wr) (fun i _ => un - (intOf i).toNat)
  case atStart => exact ⟨0, Nat.zero_le _, rfl, Ext.refl _⟩
  case round =>
    obtain ⟨k, hk, rfl, hE⟩ := hrel
    by_cases hlt : k < un
    · have hlt' : k < us.length := by rw [← HUN.out]; exact hlt
      have hsh := HUW.out
      obtain ⟨g, o, rfl, d0', d1'⟩ := rd_P HUW.out k hlt'
      have d0 := hE.keeps d0'
      have d1 := hE.keeps d1'
      clear d0' d1' hsh
      obtain ⟨n1, n2, n3⟩ := HCN.out us[k] (List.getElem_mem _)
      have hrd := HAU.out us[k] (List.getElem_mem _)
      generalize us[k] = y at *
      obtain ⟨⟨ya1, yn1, yc1, yb1, ym1, yd1⟩, yr⟩ := y
      simp only [Hd.x, Hd.y] at d0 d1 n1 n2 n3 hrd
      have hv := hrd.1
      simp only [Hd.x] at hv
      have HMD := Lib.hid (fun w' (hE : Ext w9 w') => mult_prg ds yr.v _ (.slice ya1 yn1 yc1) w' (HDW.out.ext hE) (fun p hp => (HDAW.out p hp).ext hE) (hv.ext hE))
      have HMM := Lib.hid (fun w' (hE : Ext w9 w') => mult_prg ms yr.v _ (.slice ya1 yn1 yc1) w' (HMW.out.ext hE) (fun p hp => (HMAW.out p hp).ext hE) (hv.ext hE))
      have HMU := Lib.hid (fun w' (hE : Ext w9 w') => mult_prg us yr.v _ (.slice ya1 yn1 yc1) w' (HUW.out.ext hE) (fun p hp => (HAU.out p hp).ext hE) (hv.ext hE))
      have HMX := Lib.hid (fun w' (hE : Ext w9 w') => mult_prg ps yr.v _ (.slice ya1 yn1 yc1) w' (HPW.out.ext hE) (fun p hp => (HPAW.out p hp).ext hE) (hv.ext hE))
      have HMY := Lib.hid (fun w' (hE : Ext w9 w') => mult_prg qs yr.v _ (.slice ya1 yn1 yc1) w' (HQW.out.ext hE) (fun p hp => (HQAW.out p hp).ext hE) (hv.ext hE))
      generalize cnt (rows ds) yr.v = cD at HMD n1
      generalize cnt (rows ms) yr.v = cM at HMM n1
      generalize cnt (rows us) yr.v = cU at HMU n2 n3
      generalize cnt (rows ps) yr.v = cX at HMX n1 n2
      generalize cnt (rows qs) yr.v = cY at HMY n2
      have m1 : (cD : Int) + (cM : Int) = (cX : Int) := by omega
      have m2 : (cX : Int) + (cY : Int) = (cU : Int) := by omega
      have m3 := wrapI (cX : Int) (by omega) (by omega)
      have m4 := wrapI (cU : Int) (by omega) (by omega)
      have EX := Lib.hid (show Ext w9 (wr.alloc (.cells #[.slice ya1 yn1 yc1, .slice yb1 ym1 yd1] 51)) from hE.alloc _ _)
      have K0 := Lib.hid (al0 wr (.slice ya1 yn1 yc1) (.slice yb1 ym1 yd1) 51)
      have HL := Lib.hid hlt
      clear hrd hv n1 n2 n3 hE
      go_wp2_with fail
      go_region_held3 (fun w' => w'.cell? ⟨wr.heap.size, 0, none⟩ = some (.slice ya1 yn1 yc1)) (first | exact K0.out | exact f1 | exact f2 | exact f3 | exact f4 | exact f5 | exact f6 | go_keep)
        (first
          | (go_at_call 19; refine (HMY.out _ (EX.out.trans e5)).mono ?_; rintro e x6 ⟨rfl, hE'⟩; have e6 : Ext (wr.alloc (.cells #[.slice ya1 yn1 yc1, .slice yb1 ym1 yd1] 51)) x6 := (e5).trans hE'; have f6 := e6.keeps K0.out; clear hE')
          | (go_at_call 19; refine (HMX.out _ (EX.out.trans e4)).mono ?_; rintro e x5 ⟨rfl, hE'⟩; have e5 : Ext (wr.alloc (.cells #[.slice ya1 yn1 yc1, .slice yb1 ym1 yd1] 51)) x5 := (e4).trans hE'; have f5 := e5.keeps K0.out; clear hE')
          | (go_at_call 19; refine (HMU.out _ (EX.out.trans e3)).mono ?_; rintro e x4 ⟨rfl, hE'⟩; have e4 : Ext (wr.alloc (.cells #[.slice ya1 yn1 yc1, .slice yb1 ym1 yd1] 51)) x4 := (e3).trans hE'; have f4 := e4.keeps K0.out; clear hE')
          | (go_at_call 19; refine (HMX.out _ (EX.out.trans e2)).mono ?_; rintro e x3 ⟨rfl, hE'⟩; have e3 : Ext (wr.alloc (.cells #[.slice ya1 yn1 yc1, .slice yb1 ym1 yd1] 51)) x3 := (e2).trans hE'; have f3 := e3.keeps K0.out; clear hE')
          | (go_at_call 19; refine (HMM.out _ (EX.out.trans e1)).mono ?_; rintro e x2 ⟨rfl, hE'⟩; have e2 : Ext (wr.alloc (.cells #[.slice ya1 yn1 yc1, .slice yb1 ym1 yd1] 51)) x2 := (e1).trans hE'; have f2 := e2.keeps K0.out; clear hE')
          | (go_at_call 19; refine (HMD.out _ ?e).mono ?_; (case e => first | exact EX.out | exact EX.out.drew); rintro e x1 ⟨rfl, hE'⟩; have e1 : Ext (wr.alloc (.cells #[.slice ya1 yn1 yc1, .slice yb1 ym1 yd1] 51)) x1 := (by first | exact hE' | exact (Ext.refl _).drew.trans hE'); have f1 := e1.keeps K0.out; clear hE'))
      all_goals
        go_wp2_with fail
        go_roundw
        case rel => exact ⟨k + 1, HL.out, by go_num, EX.out.trans e6⟩
        case measure => simp [intOf]; omega
    · have t1 := HP3.out
      have t2 := HQ3.out
      have t3 : (ps.length : Int) + (qs.length : Int) = (un : Int) := by have := HUN.out; have := HLU.out; omega
      have t4 : (ds.length : Int) + (ms.length : Int) = (ps.length : Int) := by have := HLD.out; omega
      have hEE := Lib.hid (HE03.out.trans (HEU.out.trans hE))
      clear hE
      go_wp2_with fail
      refine (awake_law _ (HG.out.ext hEE.out)).mono ?_; rintro e w10 ⟨rfl, hE10⟩
      have HE10 := Lib.hid hE10
      clear hE10
      go_wp2_with fail
      go_ret
      exact ⟨rfl, hEE.out.trans HE10.out⟩
end Go.Proofs.YtbplapkcleipiaaGreatDoor
