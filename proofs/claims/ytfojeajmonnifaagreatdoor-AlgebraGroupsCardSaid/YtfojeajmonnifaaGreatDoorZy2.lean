/- Except and Intersect together: multiplicities, in plain lists. -/
import Derived.Test.YtfojeajmonnifaaGreatDoorZy1
namespace Go.Proofs.YtfojeajmonnifaaGreatDoor

theorem bq_col (x y : List R) (k : Int) (hk : k = 6 ∨ k = 7 ∨ k = 8) : colQ pz0 ((dbs x y).map Tb.t) (qz0 k 0 1) = ([[1, 2], [1, 2], [1, 2]], 0) := by
  show colQ pz0 [⟨[114], [1, 2]⟩, ⟨[115], [1, 2]⟩] _ = _
  rcases hk with rfl | rfl | rfl <;> decide
theorem bq_ev (x y : List R) (k : Int) (hk : k = 6 ∨ k = 7 ∨ k = 8) (hx : x.length ≤ 4096) (hy : y.length ≤ 4096) (z : List R) (hz : evN clsF pz0 (dbs x y) [[1, 2], [1, 2], [1, 2]] ⟨k, 0, 1, 1, [], [], []⟩ [x, y] = z) (hl : z.length ≤ 4096) : evQ clsF pz0 (dbs x y) (qz0 k 0 1) = (sortR z, 0) := by
  unfold evQ
  simp only [bq_col x y k hk]
  rw [if_neg (by simp)]
  have e : evsQ clsF pz0 (dbs x y) [[1, 2], [1, 2], [1, 2]] (qz0 k 0 1) [] = ([x, y, z], 0) := by
    have e1 : evN clsF pz0 (dbs x y) [[1, 2], [1, 2], [1, 2]] ⟨1, 0, 0, 1, [114], [], []⟩ [] = x := rfl
    have e2 : evN clsF pz0 (dbs x y) [[1, 2], [1, 2], [1, 2]] ⟨1, 0, 0, 1, [115], [], []⟩ [x] = y := rfl
    have s1 : evsQ clsF pz0 (dbs x y) [[1, 2], [1, 2], [1, 2]] (qz0 k 0 1) [] = evsQ clsF pz0 (dbs x y) [[1, 2], [1, 2], [1, 2]] [⟨1, 0, 0, 1, [115], [], []⟩, ⟨k, 0, 1, 1, [], [], []⟩] [x] := by
      unfold qz0
      rw [evsQ_step, e1, if_neg (by omega)]; rfl
    have s2 : evsQ clsF pz0 (dbs x y) [[1, 2], [1, 2], [1, 2]] [⟨1, 0, 0, 1, [115], [], []⟩, ⟨k, 0, 1, 1, [], [], []⟩] [x] = evsQ clsF pz0 (dbs x y) [[1, 2], [1, 2], [1, 2]] [⟨k, 0, 1, 1, [], [], []⟩] [x, y] := by
      rw [evsQ_step, e2, if_neg (by omega)]; rfl
    rw [s1, s2, evsQ_step, hz, if_neg (by omega)]; rfl
  simp only [e]
  rfl
theorem bq_union (x y : List R) : evN clsF pz0 (dbs x y) [[1, 2], [1, 2], [1, 2]] ⟨6, 0, 1, 1, [], [], []⟩ [x, y] = x ++ y := rfl
theorem bq_exc (x y : List R) : evN clsF pz0 (dbs x y) [[1, 2], [1, 2], [1, 2]] ⟨7, 0, 1, 1, [], [], []⟩ [x, y] = (clsF R.v (x ++ y)).flatMap (cmbC timE x) := rfl
theorem bq_int (x y : List R) : evN clsF pz0 (dbs x y) [[1, 2], [1, 2], [1, 2]] ⟨8, 0, 1, 1, [], [], []⟩ [x, y] = (clsF R.v (x ++ y)).flatMap (cmbC timI x) := rfl
theorem cnt_rep (n : Nat) (r : R) (v : List V) : cnt (List.replicate n r) v = if r.v = v then n else 0 := by
  unfold cnt
  rw [List.countP_replicate]
  by_cases h : r.v = v <;> simp [h]
theorem cnt_appR (a b : List R) (v : List V) : cnt (a ++ b) v = cnt a v + cnt b v := by unfold cnt; rw [List.countP_append]
theorem cmb_no (f : Nat → Nat → Nat) (x : List R) (v : List V) : ∀ cs : List Cl, v ∉ cs.map Prod.fst → cnt (cs.flatMap (cmbC f x)) v = 0
  | [], _ => rfl
  | c :: cs, h => by
    simp only [List.map_cons, List.mem_cons, not_or] at h
    rw [List.flatMap_cons, cnt_appR, cmb_no f x v cs h.2]
    unfold cmbC
    rw [cnt_rep, if_neg (fun e => h.1 e.symm)]
theorem cmb_cnt (f : Nat → Nat → Nat) (x : List R) (v : List V) : ∀ cs : List Cl, (cs.map Prod.fst).Nodup → ∀ c ∈ cs, c.1 = v → cnt (cs.flatMap (cmbC f x)) v = f (cnt x v) (c.2.length - cnt x v)
  | [], _, c, hc, _ => by cases hc
  | d :: cs, hn, c, hc, e => by
    simp only [List.map_cons, List.nodup_cons] at hn
    rw [List.flatMap_cons, cnt_appR]
    rcases List.mem_cons.1 hc with rfl | hc
    · rw [cmb_no f x v cs (by rw [← e]; exact hn.1)]
      unfold cmbC
      rw [cnt_rep, if_pos e, e]; rfl
    · have hne : ¬ d.1 = v := fun h => hn.1 (by rw [h, ← e]; exact List.mem_map_of_mem hc)
      rw [cmb_cnt f x v cs hn.2 c hc e]
      unfold cmbC
      rw [cnt_rep, if_neg hne, Nat.zero_add]
theorem cls_at {x y : List R} {v : List V} (h : 0 < cnt (x ++ y) v) : ∃ c ∈ clsF R.v (x ++ y), c.1 = v ∧ c.2.length = cnt (x ++ y) v := by
  have hi := clsF_isC R.v (x ++ y)
  obtain ⟨r, hr, hv⟩ := List.countP_pos_iff.1 h
  obtain ⟨c, hc, e⟩ := List.mem_map.1 ((hi.mem v).2 (List.mem_map.2 ⟨r, hr, by simpa using hv⟩))
  refine ⟨c, hc, e, ?_⟩
  rw [(hi.cls c hc).length_eq, ← List.countP_eq_length_filter, e]; rfl
theorem bal_cnt (x y : List R) (v : List V) (h : 0 < cnt (x ++ y) v) : cnt ((clsF R.v (x ++ y)).flatMap (cmbC timE x)) v + cnt ((clsF R.v (x ++ y)).flatMap (cmbC timI x)) v = cnt x v := by
  obtain ⟨c, hc, e, hl⟩ := cls_at h
  have hn := (clsF_isC R.v (x ++ y)).nd
  rw [cmb_cnt timE x v _ hn c hc e, cmb_cnt timI x v _ hn c hc e, hl, cnt_appR]
  unfold timE timI
  omega
theorem keys_one (v : List V) : ∀ cs : List Cl, (cs.map Prod.fst).Nodup → v ∈ cs.map Prod.fst → (cs.map fun c => if v = c.1 then 1 else 0).sum = 1
  | [], _, h => by cases h
  | c :: cs, hn, h => by
    simp only [List.map_cons, List.nodup_cons] at hn
    simp only [List.map_cons, List.sum_cons]
    have zero : ∀ cs : List Cl, v ∉ cs.map Prod.fst → (cs.map fun c => if v = c.1 then 1 else 0).sum = 0 := by
      intro cs
      induction cs with
      | nil => intro _; rfl
      | cons d cs ih =>
        intro h
        simp only [List.map_cons, List.mem_cons, not_or] at h
        simp only [List.map_cons, List.sum_cons, ih h.2, if_neg h.1]
    by_cases e : v = c.1
    · rw [if_pos e, zero cs (by rw [e]; exact hn.1)]
    · rw [if_neg e, keys_one v cs hn.2 (by simpa [e] using h)]
theorem sum_cnt (cs : List Cl) (hn : (cs.map Prod.fst).Nodup) : ∀ x : List R, (∀ r ∈ x, r.v ∈ cs.map Prod.fst) → (cs.map fun c => cnt x c.1).sum = x.length
  | [], _ => by
    have : ∀ cs : List Cl, (cs.map fun c => cnt [] c.1).sum = 0 := fun cs => by induction cs with
      | nil => rfl
      | cons c cs ih => simp only [List.map_cons, List.sum_cons, ih]; rfl
    rw [this]; rfl
  | r :: x, h => by
    have ih := sum_cnt cs hn x fun q hq => h q (List.mem_cons_of_mem _ hq)
    have h1 := keys_one r.v cs hn (h r (by simp))
    have e : ∀ cs : List Cl, (cs.map fun c => cnt (r :: x) c.1).sum = (cs.map fun c => cnt x c.1).sum + (cs.map fun c => if r.v = c.1 then 1 else 0).sum := fun cs => by induction cs with
      | nil => rfl
      | cons c cs ih =>
        simp only [List.map_cons, List.sum_cons, ih]
        have : cnt (r :: x) c.1 = cnt x c.1 + if r.v = c.1 then 1 else 0 := by
          unfold cnt; rw [List.countP_cons]; simp
        omega
    rw [e, ih, h1]; rfl
theorem bal_len (x y : List R) : ((clsF R.v (x ++ y)).flatMap (cmbC timE x)).length + ((clsF R.v (x ++ y)).flatMap (cmbC timI x)).length = x.length := by
  have hi := clsF_isC R.v (x ++ y)
  have h := sum_cnt (clsF R.v (x ++ y)) hi.nd x fun r hr => (hi.mem r.v).2 (List.mem_map_of_mem (List.mem_append_left _ hr))
  have e : ∀ cs : List Cl, (cs.flatMap (cmbC timE x)).length + (cs.flatMap (cmbC timI x)).length = (cs.map fun c => cnt x c.1).sum := fun cs => by induction cs with
    | nil => rfl
    | cons c cs ih =>
      have l1 : (cmbC timE x c).length = cnt x c.1 - (c.2.length - cnt x c.1) := by unfold cmbC timE; rw [List.length_replicate]
      have l2 : (cmbC timI x c).length = min (cnt x c.1) (c.2.length - cnt x c.1) := by unfold cmbC timI; rw [List.length_replicate]
      simp only [List.flatMap_cons, List.length_append, List.map_cons, List.sum_cons, l1, l2]
      omega
  rw [e, h]
end Go.Proofs.YtfojeajmonnifaaGreatDoor
