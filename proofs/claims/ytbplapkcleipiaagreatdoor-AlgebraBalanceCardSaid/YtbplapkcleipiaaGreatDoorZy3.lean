/- Classes and multiplicities of Except and Intersect, in plain lists. -/
import Derived.Test.YtbplapkcleipiaaGreatDoorZz06
import Derived.Test.YtbplapkcleipiaaGreatDoorZz09
import Derived.Test.YtbplapkcleipiaaGreatDoorZz43
import Derived.Test.YtbplapkcleipiaaGreatDoorZz07
import Derived.Test.YtbplapkcleipiaaGreatDoorZz04
import Derived.Test.YtbplapkcleipiaaGreatDoorZy2
namespace Go.Proofs.YtbplapkcleipiaaGreatDoor

theorem cnt_rep (n : Nat) (r : R) (v : List V) : cnt (List.replicate n r) v = if r.v = v then n else 0 := by
  unfold cnt
  rw [List.countP_replicate]
  by_cases h : r.v = v <;> simp [h]
theorem cnt_appR (a b : List R) (v : List V) : cnt (a ++ b) v = cnt a v + cnt b v := by unfold cnt; rw [List.countP_append]
theorem cmb_no (f : Nat → Nat → Nat) (x : List R) (v : List V) : ∀ cs : List Cl, v ∉ cs.map Prod.fst → cnt (cs.flatMap (cmbC f x)) v = 0
  | [], _ => rfl
  | c :: cs, h => by
    simp only [List.map_cons, List.mem_cons, not_or] at h
    rw [List.flatMap_cons, cnt_appR, cmb_no f x v cs h.2]
    unfold cmbC
    rw [cnt_rep, if_neg (fun e => h.1 e.symm)]
theorem cmb_cnt (f : Nat → Nat → Nat) (x : List R) (v : List V) : ∀ cs : List Cl, (cs.map Prod.fst).Nodup → ∀ c ∈ cs, c.1 = v → cnt (cs.flatMap (cmbC f x)) v = f (cnt x v) (c.2.length - cnt x v)
  | [], _, c, hc, _ => by cases hc
  | d :: cs, hn, c, hc, e => by
    simp only [List.map_cons, List.nodup_cons] at hn
    rw [List.flatMap_cons, cnt_appR]
    rcases List.mem_cons.1 hc with rfl | hc
    · rw [cmb_no f x v cs (by rw [← e]; exact hn.1)]
      unfold cmbC
      rw [cnt_rep, if_pos e, e]; rfl
    · have hne : ¬ d.1 = v := fun h => hn.1 (by rw [h, ← e]; exact List.mem_map_of_mem hc)
      rw [cmb_cnt f x v cs hn.2 c hc e]
      unfold cmbC
      rw [cnt_rep, if_neg hne, Nat.zero_add]
theorem cls_at {x y : List R} {v : List V} (h : 0 < cnt (x ++ y) v) : ∃ c ∈ clsF R.v (x ++ y), c.1 = v ∧ c.2.length = cnt (x ++ y) v := by
  have hi := clsF_isC R.v (x ++ y)
  obtain ⟨r, hr, hv⟩ := List.countP_pos_iff.1 h
  obtain ⟨c, hc, e⟩ := List.mem_map.1 ((hi.mem v).2 (List.mem_map.2 ⟨r, hr, by simpa using hv⟩))
  refine ⟨c, hc, e, ?_⟩
  rw [(hi.cls c hc).length_eq, ← List.countP_eq_length_filter, e]; rfl
theorem bal_cnt (x y : List R) (v : List V) (h : 0 < cnt (x ++ y) v) : cnt ((clsF R.v (x ++ y)).flatMap (cmbC timE x)) v + cnt ((clsF R.v (x ++ y)).flatMap (cmbC timI x)) v = cnt x v := by
  obtain ⟨c, hc, e, hl⟩ := cls_at h
  have hn := (clsF_isC R.v (x ++ y)).nd
  rw [cmb_cnt timE x v _ hn c hc e, cmb_cnt timI x v _ hn c hc e, hl, cnt_appR]
  unfold timE timI
  omega
theorem keys_one (v : List V) : ∀ cs : List Cl, (cs.map Prod.fst).Nodup → v ∈ cs.map Prod.fst → (cs.map fun c => if v = c.1 then 1 else 0).sum = 1
  | [], _, h => by cases h
  | c :: cs, hn, h => by
    simp only [List.map_cons, List.nodup_cons] at hn
    simp only [List.map_cons, List.sum_cons]
    have zero : ∀ cs : List Cl, v ∉ cs.map Prod.fst → (cs.map fun c => if v = c.1 then 1 else 0).sum = 0 := by
      intro cs
      induction cs with
      | nil => intro _; rfl
      | cons d cs ih =>
        intro h
        simp only [List.map_cons, List.mem_cons, not_or] at h
        simp only [List.map_cons, List.sum_cons, ih h.2, if_neg h.1]
    by_cases e : v = c.1
    · rw [if_pos e, zero cs (by rw [e]; exact hn.1)]
    · rw [if_neg e, keys_one v cs hn.2 (by simpa [e] using h)]
theorem sum_cnt (cs : List Cl) (hn : (cs.map Prod.fst).Nodup) : ∀ x : List R, (∀ r ∈ x, r.v ∈ cs.map Prod.fst) → (cs.map fun c => cnt x c.1).sum = x.length
  | [], _ => by
    have : ∀ cs : List Cl, (cs.map fun c => cnt [] c.1).sum = 0 := fun cs => by induction cs with
      | nil => rfl
      | cons c cs ih => simp only [List.map_cons, List.sum_cons, ih]; rfl
    rw [this]; rfl
  | r :: x, h => by
    have ih := sum_cnt cs hn x fun q hq => h q (List.mem_cons_of_mem _ hq)
    have h1 := keys_one r.v cs hn (h r (by simp))
    have e : ∀ cs : List Cl, (cs.map fun c => cnt (r :: x) c.1).sum = (cs.map fun c => cnt x c.1).sum + (cs.map fun c => if r.v = c.1 then 1 else 0).sum := fun cs => by induction cs with
      | nil => rfl
      | cons c cs ih =>
        simp only [List.map_cons, List.sum_cons, ih]
        have : cnt (r :: x) c.1 = cnt x c.1 + if r.v = c.1 then 1 else 0 := by
          unfold cnt; rw [List.countP_cons]; simp
        omega
    rw [e, ih, h1]; rfl
theorem bal_len (x y : List R) : ((clsF R.v (x ++ y)).flatMap (cmbC timE x)).length + ((clsF R.v (x ++ y)).flatMap (cmbC timI x)).length = x.length := by
  have hi := clsF_isC R.v (x ++ y)
  have h := sum_cnt (clsF R.v (x ++ y)) hi.nd x fun r hr => (hi.mem r.v).2 (List.mem_map_of_mem (List.mem_append_left _ hr))
  have e : ∀ cs : List Cl, (cs.flatMap (cmbC timE x)).length + (cs.flatMap (cmbC timI x)).length = (cs.map fun c => cnt x c.1).sum := fun cs => by induction cs with
    | nil => rfl
    | cons c cs ih =>
      have l1 : (cmbC timE x c).length = cnt x c.1 - (c.2.length - cnt x c.1) := by unfold cmbC timE; rw [List.length_replicate]
      have l2 : (cmbC timI x c).length = min (cnt x c.1) (c.2.length - cnt x c.1) := by unfold cmbC timI; rw [List.length_replicate]
      simp only [List.flatMap_cons, List.length_append, List.map_cons, List.sum_cons, l1, l2]
      omega
  rw [e, h]
end Go.Proofs.YtbplapkcleipiaaGreatDoor
/- Except and Intersect together: multiplicities, in plain lists. -/
namespace Go.Proofs.YtbplapkcleipiaaGreatDoor

theorem bq_col (x y : List R) (k : Int) (hk : k = 6 ∨ k = 7 ∨ k = 8) : colQ pz0 ((dbs x y).map Tb.t) (qz0 k 0 1) = ([[1, 2], [1, 2], [1, 2]], 0) := by
  show colQ pz0 [⟨[114], [1, 2]⟩, ⟨[115], [1, 2]⟩] _ = _
  rcases hk with rfl | rfl | rfl <;> decide
theorem bq_ev (x y : List R) (k : Int) (hk : k = 6 ∨ k = 7 ∨ k = 8) (hx : x.length ≤ 4096) (hy : y.length ≤ 4096) (z : List R) (hz : evN clsF pz0 (dbs x y) [[1, 2], [1, 2], [1, 2]] ⟨k, 0, 1, 1, [], [], []⟩ [x, y] = z) (hl : z.length ≤ 4096) : evQ clsF pz0 (dbs x y) (qz0 k 0 1) = (sortR z, 0) := by
  unfold evQ
  simp only [bq_col x y k hk]
  rw [if_neg (by simp)]
  have e : evsQ clsF pz0 (dbs x y) [[1, 2], [1, 2], [1, 2]] (qz0 k 0 1) [] = ([x, y, z], 0) := by
    have e1 : evN clsF pz0 (dbs x y) [[1, 2], [1, 2], [1, 2]] ⟨1, 0, 0, 1, [114], [], []⟩ [] = x := rfl
    have e2 : evN clsF pz0 (dbs x y) [[1, 2], [1, 2], [1, 2]] ⟨1, 0, 0, 1, [115], [], []⟩ [x] = y := rfl
    have s1 : evsQ clsF pz0 (dbs x y) [[1, 2], [1, 2], [1, 2]] (qz0 k 0 1) [] = evsQ clsF pz0 (dbs x y) [[1, 2], [1, 2], [1, 2]] [⟨1, 0, 0, 1, [115], [], []⟩, ⟨k, 0, 1, 1, [], [], []⟩] [x] := by
      unfold qz0
      rw [evsQ_step, e1, if_neg (by omega)]; rfl
    have s2 : evsQ clsF pz0 (dbs x y) [[1, 2], [1, 2], [1, 2]] [⟨1, 0, 0, 1, [115], [], []⟩, ⟨k, 0, 1, 1, [], [], []⟩] [x] = evsQ clsF pz0 (dbs x y) [[1, 2], [1, 2], [1, 2]] [⟨k, 0, 1, 1, [], [], []⟩] [x, y] := by
      rw [evsQ_step, e2, if_neg (by omega)]; rfl
    rw [s1, s2, evsQ_step, hz, if_neg (by omega)]; rfl
  simp only [e]
  rfl
theorem bq_union (x y : List R) : evN clsF pz0 (dbs x y) [[1, 2], [1, 2], [1, 2]] ⟨6, 0, 1, 1, [], [], []⟩ [x, y] = x ++ y := rfl
theorem bq_exc (x y : List R) : evN clsF pz0 (dbs x y) [[1, 2], [1, 2], [1, 2]] ⟨7, 0, 1, 1, [], [], []⟩ [x, y] = (clsF R.v (x ++ y)).flatMap (cmbC timE x) := rfl
theorem bq_int (x y : List R) : evN clsF pz0 (dbs x y) [[1, 2], [1, 2], [1, 2]] ⟨8, 0, 1, 1, [], [], []⟩ [x, y] = (clsF R.v (x ++ y)).flatMap (cmbC timI x) := rfl
end Go.Proofs.YtbplapkcleipiaaGreatDoor
/- Tuples: how they lie. -/
namespace Go.Proofs.YtbplapkcleipiaaGreatDoor
open Go.ChangeShapes Go.WideShapes Go.ChangeAt Go.RowKit

/-- a tuple: how it lies, and what it is -/
structure TP where
  h : Hd
  r : R
  a : Int
  b : Int
instance : Inhabited TP := ⟨⟨⟨none, 0, 0, none, 0, 0⟩, ⟨[], []⟩, 0, 0⟩⟩
instance : Enc TP := ⟨4, by decide, fun p => [p.h.x, .int .i64 p.a, .int .i64 p.b, p.h.y], fun _ => rfl, fun a u h => by simp at h; rcases h with rfl | rfl | rfl | rfl <;> rfl⟩
def tT : RowT TP := ⟨84, 79, default, .agg #[.slice none 0 0, .int .i64 0, .int .i64 0, .slice none 0 0], 64, Tryz.underlying79, by kernel_rfl, by rfl, by decide⟩
theorem rd_T {w : World} {ad : Option Addr} {n cap : Nat} {l : List TP} (h : RdG w (.slice ad n cap) l) (i : Nat) (hi : i < l.length) : ∃ g o, ad = some ⟨g, o, none⟩ ∧ w.cell? ⟨g, o + i * 4, none⟩ = some l[i].h.x ∧ w.cell? ⟨g, o + i * 4 + 1, none⟩ = some (.int .i64 l[i].a) ∧ w.cell? ⟨g, o + i * 4 + 2, none⟩ = some (.int .i64 l[i].b) ∧ w.cell? ⟨g, o + i * 4 + 3, none⟩ = some l[i].h.y := by
  obtain ⟨g, o, e, c⟩ := h.at i hi
  exact ⟨g, o, e, c 0 _ rfl, c 1 _ rfl, c 2 _ rfl, c 3 _ rfl⟩
end Go.Proofs.YtbplapkcleipiaaGreatDoor
/- The laws' builders of periods and tuples. -/
namespace Go.Proofs.YtbplapkcleipiaaGreatDoor
open Go.ChangeShapes Go.WideShapes Go.ChangeAt Go.RowKit

set_option maxHeartbeats 4000000 in
theorem period_law (x y : Int) (h0 : 0 ≤ x) (_h1 : x ≤ 65535) (k0 : 0 ≤ y) (_k1 : y ≤ 65535) (w : World) : Calls Tryz.prog 61 #[.int .u16 x, .int .u16 y] w (BpP w) := by
  obtain ⟨f, hf⟩ : ∃ m, m = x % 40 := ⟨_, rfl⟩
  obtain ⟨m, hm⟩ : ∃ m, m = y % 11 := ⟨_, rfl⟩
  obtain ⟨d, hd⟩ : ∃ m, m = y % 15 := ⟨_, rfl⟩
  have hf1 : Int.tmod x 40 = f := by rw [Int.tmod_eq_emod_of_nonneg h0]; exact hf.symm
  have hm1 : Int.tmod y 11 = m := by rw [Int.tmod_eq_emod_of_nonneg k0]; exact hm.symm
  have hd1 : Int.tmod y 15 = d := by rw [Int.tmod_eq_emod_of_nonneg k0]; exact hd.symm
  have hf2 := hf.symm
  have hm2 := hm.symm
  have hd2 := hd.symm
  have hfb : 0 ≤ f ∧ f ≤ 39 := by omega
  have hmb : 0 ≤ m ∧ m ≤ 10 := by omega
  have hdb : 0 ≤ d ∧ d ≤ 14 := by omega
  have wf1 := wrapU f (by omega) (by omega)
  have wm1 := wrapU m (by omega) (by omega)
  have wd1 := wrapU d (by omega) (by omega)
  have wf2 := wrapI f (by omega) (by omega)
  have wd2 := wrapI d (by omega) (by omega)
  have wf3 := wrapI (f + 1) (by omega) (by omega)
  have wf4 := wrapI (f + 1 + d) (by omega) (by omega)
  clear hf hm hd
  by_cases hz : m = 0
  · subst hz
    go_enter Tryz.func61, Tryz.ntmps61
    go_wp2_with fail
    all_goals
      exact bodyPost_ret (v := pv f 1000000) (by simp [results, Tryz.results61, go_sem]) rfl ⟨_, _, rfl, by repeat (first | exact Ext.refl _ | refine Ext.alloc ?_ _ _ | refine Ext.setNew ?_ _ _ (by simp; try omega) _)⟩
  · have hz1 : (m == 0) = false := by simpa using hz
    go_enter Tryz.func61, Tryz.ntmps61
    go_wp2_with fail
    all_goals
      exact bodyPost_ret (v := pv f (f + 1 + d)) (by simp [results, Tryz.results61, go_sem]) rfl ⟨_, _, rfl, by repeat (first | exact Ext.refl _ | refine Ext.alloc ?_ _ _ | refine Ext.setNew ?_ _ _ (by simp; try omega) _)⟩
/-- some tuple, its parts the call's own -/
def BtP (w : World) (e : Ending) (w' : World) : Prop := ∃ (v : Value) (l : List V) (v2 : Value) (l2 : List Int) (a b : Int), e = .returned (.agg #[v, .int .i64 a, .int .i64 b, v2]) ∧ OwnG tV.e w w' v l ∧ OwnG tI.e w w' v2 l2 ∧ l.length = 2 ∧ l2.length = 1 ∧ (∀ v ∈ l, SmV v) ∧ ∀ x ∈ l2, 1 ≤ x ∧ x ≤ 5
end Go.Proofs.YtbplapkcleipiaaGreatDoor
