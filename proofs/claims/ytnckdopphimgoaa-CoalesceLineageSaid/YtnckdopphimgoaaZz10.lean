/- Tuples in plain lists: what is left when lineages are taken away; the coalesced form. -/
import Derived.ProofKit
import Derived.OpenShut
import Derived.WideKeyArgs
import Derived.ChangeArms
import Derived.Test.YtnckdopphimgoaaZz01
import Derived.Test.YtnckdopphimgoaaZz06
import Derived.Test.YtnckdopphimgoaaZz09
namespace Go.Proofs.Ytnckdopphimgoaa

/-- a row without its lineage -/
def stp (r : R) : R := ⟨r.v, []⟩
def nl (x : Tu) : Tu := ⟨stp x.r, x.a, x.b⟩
def nls (l : List Tu) : List Tu := l.map nl
theorem nls_app (l m : List Tu) : nls (l ++ m) = nls l ++ nls m := List.map_append
theorem nls_take (l : List Tu) (k : Nat) : nls (l.take k) = (nls l).take k := List.map_take
theorem nls_len (l : List Tu) : (nls l).length = l.length := List.length_map _
/-- what holds without lineages: the rows that hold, stripped -/
theorem at_nls (l : List Tu) (r : R) (t : Int) : ats (nls l) r t = (((l.filter fun x => incB x.a x.b t).map Tu.r).map stp).count r := by
  rw [← sl_count]
  congr 1
  unfold nls
  rw [List.filter_map, List.map_map, List.map_map]
  rfl
/-- lineages do not matter where values and periods agree -/
theorem at_nls_cong {l m : List Tu} (h : ∀ r t, ats l r t = ats m r t) (r : R) (t : Int) : ats (nls l) r t = ats (nls m) r t := by
  rw [at_nls, at_nls]
  have hp : ((l.filter fun x => incB x.a x.b t).map Tu.r).Perm ((m.filter fun x => incB x.a x.b t).map Tu.r) := by
    rw [List.perm_iff_count]
    intro s
    rw [sl_count, sl_count]
    exact h s t
  exact (hp.map stp).count_eq r
theorem nls_all {l : List Tu} (h : ∀ x ∈ l, x.r.t = []) : nls l = l := by
  unfold nls
  refine (List.map_congr_left (g := id) fun x hx => ?_).trans (List.map_id l)
  obtain ⟨⟨v, t⟩, a, b⟩ := x
  have : t = [] := h _ hx
  subst this; rfl
theorem nls_none {l : List Tu} : ∀ x ∈ nls l, x.r.t = [] := fun x hx => by
  obtain ⟨y, _, rfl⟩ := List.mem_map.1 hx; rfl
/-- what is in a normal form holds somewhere -/
theorem nf_row {f : R → Int → Nat} {N : List Tu} (h : IsNf f N) {x : Tu} (hx : x ∈ N) : ∃ t, 0 < f x.r t := by
  have hm : (x.a, x.b) ∈ per N x.r := per_mem.2 hx
  have hk := (h.lam x.r).1 _ hm
  refine ⟨x.a, ?_⟩
  rw [← h.cnt]
  unfold ats
  refine cov_pos.2 ⟨_, hm, ?_⟩
  unfold okP at hk
  rw [incB_yes]
  simp only at hk ⊢
  omega
/-- the coalesced form -/
def IsCo (l N : List Tu) : Prop := IsNf (ats (nls l)) N
theorem co_bare {l N : List Tu} (h : IsCo l N) : ∀ x ∈ N, x.r.t = [] := fun x hx => by
  obtain ⟨t, ht⟩ := nf_row h hx
  obtain ⟨q, hq, _⟩ := cov_pos.1 ht
  have hb := nls_none _ (per_mem.1 hq)
  exact hb
theorem co_self {l N : List Tu} (h : IsCo l N) : IsCo N N := by
  unfold IsCo
  rw [nls_all (co_bare h)]
  exact h.self
theorem co_cong {l m N : List Tu} (h : IsCo l N) (e : ∀ r t, ats l r t = ats m r t) : IsCo m N := IsNf.cong h fun r t => at_nls_cong e r t
theorem co_same {l m N : List Tu} (h : IsCo l N) (e : nls l = nls m) : IsCo m N := by
  unfold IsCo at *
  rw [← e]; exact h
/-- «as» many rows hold «as» before -/
theorem co_len {l N : List Tu} (h : IsCo l N) (t : Int) : (sl N t).length = (sl l t).length := by
  have e : sl N t = sl (nls l) t := sl_eq.2 fun r => h.cnt r t
  rw [e]
  unfold sl nls
  rw [sortR_len, sortR_len, List.length_map, List.length_map, List.filter_map, List.length_map]
  rfl
/-- «as» many rows have the values «as» before -/
theorem cnt_stp (l : List R) (v : List V) : cnt (l.map stp) v = cnt l v := by
  unfold cnt; rw [List.countP_map]; rfl
theorem co_cnt {l N : List Tu} (h : IsCo l N) (t : Int) (v : List V) : cnt (sl N t) v = cnt (sl l t) v := by
  have e : sl N t = sl (nls l) t := sl_eq.2 fun r => h.cnt r t
  rw [e]
  unfold sl
  rw [cnt_perm (sortR_perm _), cnt_perm (sortR_perm _), ← cnt_stp ((l.filter fun x => incB x.a x.b t).map Tu.r)]
  unfold nls
  rw [List.filter_map, List.map_map, List.map_map]
  rfl
/-- two tuples of the same values never meet -/
theorem co_apart {l N : List Tu} (h : IsCo l N) {x y : Tu} (hx : x ∈ N) (hy : y ∈ N) (hv : x.r.v = y.r.v) : x.b ≠ y.a := by
  have h1 := co_bare h x hx
  have h2 := co_bare h y hy
  have hr : x.r = y.r := by
    obtain ⟨⟨v, t⟩, a, b⟩ := x
    obtain ⟨⟨v', t'⟩, a', b'⟩ := y
    simp only at hv h1 h2
    subst hv h1 h2; rfl
  have hl := h.lam y.r
  have hmx : (x.a, x.b) ∈ per N y.r := per_mem.2 (by rw [← hr]; exact hx)
  have hmy : (y.a, y.b) ∈ per N y.r := per_mem.2 hy
  have k1 := hl.1 _ hmx
  have k2 := hl.1 _ hmy
  have n1 := hl.2 _ hmx _ hmy
  unfold okP at k1 k2
  unfold Nst at n1
  simp only at k1 k2 n1
  omega
end Go.Proofs.Ytnckdopphimgoaa
/- Contracts of period's Valid and Includes. -/
namespace Go.Proofs.Ytnckdopphimgoaa
open Go.ChangeShapes Go.WideShapes Go.ChangeAt Go.RowKit

set_option maxHeartbeats 1000000 in
theorem vp_per (a b : Int) (w : World) : Calls Try.prog 35 #[pv a b] w fun e w' => e = .returned (.bool (okV a b)) ∧ Grown w w' := by
  go_enter Try.func35, Try.ntmps35
  go_wp2
  all_goals
    go_ret
    exact ⟨ret_bool (by rw [Bool.eq_iff_iff]; simp [okV, *] <;> omega), (Grown.refl _).alloc _ _⟩
theorem vpp_yes (a b : Int) (w : World) (h : okV a b = true) : Calls Try.prog 35 #[pv a b] w fun e w' => e = .returned (.bool true) ∧ Grown w w' := by
  have := vp_per a b w; rwa [h] at this
theorem vpp_no (a b : Int) (w : World) (h : okV a b = false) : Calls Try.prog 35 #[pv a b] w fun e w' => e = .returned (.bool false) ∧ Grown w w' := by
  have := vp_per a b w; rwa [h] at this
end Go.Proofs.Ytnckdopphimgoaa
/- Blocks of an elder world behind a walk. -/
namespace Go.Proofs.Ytnckdopphimgoaa
open Go.ChangeShapes Go.WideShapes Go.ChangeAt Go.RowKit

theorem laidOutP : laidOutB Try.prog = true := by kernel_rfl
theorem ext_block {w w' : World} (h : Ext w w') {i : Nat} (hi : i < w.heap.size) : w'.heap[i]? = w.heap[i]? := by
  have hk := h.1.2.2 i hi
  cases h1 : w.heap[i]? with
  | none => rw [Array.getElem?_eq_none_iff] at h1; omega
  | some o =>
    rw [h1] at hk
    cases h2 : w'.heap[i]? with
    | none => rw [h2] at hk; cases o <;> simp at hk
    | some o' =>
      rw [h2] at hk
      cases o <;> cases o' <;> simp at hk ⊢
      all_goals first
        | exact hk
        | (obtain ⟨rfl, rfl, _, hj⟩ := hk; exact ⟨Array.ext_getElem? hj, rfl, rfl⟩)
theorem ext_same {w w' : World} (h : Ext w w') {p : MemPlace} (hp : p.block < w.heap.size) : w.sameAt w' p := by
  cases p with
  | cell b o => exact World.cell?_of_block (w := w) (ext_block h hp)
  | map b => exact ext_block h hp
end Go.Proofs.Ytnckdopphimgoaa
