/- evalOne and Eval, of the program. -/
import Derived.Test.YtdamlnfjhpmpmaaEv3a
import Derived.Test.YtdamlnfjhpmpmaaEv3b
import Derived.Test.YtdamlnfjhpmpmaaEv3c
import Derived.Test.YtdamlnfjhpmpmaaEv3d
import Derived.Test.YtdamlnfjhpmpmaaEv3e
import Derived.Test.YtdamlnfjhpmpmaaEv3f
import Derived.Test.YtdamlnfjhpmpmaaRea
namespace Go.Proofs.Ytdamlnfjhpmpmaa
open Go.ChangeShapes Go.WideShapes Go.ChangeAt Go.RowKit

theorem evo_prg (x : X) (pre row : List V) (vp vr : Value) (w : World) (hp : RdG w vp pre) (hr : RdG w vr row) (hop : ∀ v ∈ pre, okN v.n) : Calls Try.prog 25 #[xv x, vp, vr] w fun e w' => e = .returned (vv (evO x pre row)) ∧ Ext w w' := by
  cases hb : lgl x pre.length with
  | false => exact evo_no x pre row vp vr w hp hr hop hb
  | true =>
    by_cases h1 : x.op = 1
    · exact evo_1 x pre row vp vr w hp hr hop hb h1
    by_cases h2 : x.op = 2
    · exact evo_2 x pre row vp vr w hp hr hop hb h1 h2
    by_cases h10 : x.op = 10
    · exact evo_10 x pre row vp vr w hp hr hop hb h1 h2 h10
    by_cases h11 : x.op = 11
    · exact evo_11 x pre row vp vr w hp hr hop hb h1 h2 h10 h11
    by_cases h35 : 3 ≤ x.op ∧ x.op ≤ 5
    · exact evo_35 x pre row vp vr w hp hr hop hb h1 h2 h10 h11 h35
    by_cases h69 : 6 ≤ x.op ∧ x.op ≤ 9
    · exact evo_69 x pre row vp vr w hp hr hop hb h1 h2 h10 h11 h35 h69
    exact evo_else x pre row vp vr w hp hr hop hb h1 h2 h10 h11 h35 h69

/- numbers stay within 64 bits -/
def OkR (row : List V) : Prop := ∀ v ∈ row, okN v.n
def OkX (l : List X) : Prop := ∀ x ∈ l, okN x.c.n
theorem okN_nul : okN nul.n := (⟨by decide, by decide⟩ : okN 0)
theorem okR_at {row : List V} (h : OkR row) (i : Nat) : okN (row.getD i nul).n := by
  by_cases hi : i < row.length
  · rw [getD_at row nul i hi]; exact h _ (List.getElem_mem _)
  · rw [show row.getD i nul = nul by simp [List.getD, List.getElem?_eq_none (Nat.le_of_not_lt hi)]]; exact okN_nul
theorem calV_ok (op : Int) (a b : V) : okN (calV op a b).n := by
  unfold calV; split
  · unfold numV; split
    · rename_i h; unfold fitB at h; simp only [decide_eq_true_eq] at h; exact h
    · exact okN_nul
  · exact okN_nul
theorem evO_ok (x : X) (pre row : List V) (hx : okN x.c.n) (hr : OkR row) : okN (evO x pre row).n := by
  have hb : ∀ b, okN (booV b).n := fun b => by unfold okN booV; cases b <;> simp
  unfold evO
  repeat' split
  all_goals (first | exact okN_nul | exact hx | exact hb _ | exact (show okN (row.getD x.col.toNat nul).n from okR_at hr _) | exact calV_ok _ _ _)
theorem evs_ok (row : List V) (hr : OkR row) (l : List X) (hx : OkX l) : OkR (evs row l) := by
  intro v hv
  obtain ⟨i, hi, rfl⟩ := List.getElem_of_mem hv
  have hl : i < l.length := by rw [evs_len] at hi; exact hi
  rw [← getD_at (evs row l) nul i hi, evs_get row l i hl]
  exact evO_ok _ _ _ (hx _ (List.getElem_mem _)) hr
theorem pvs_ok (row : List V) (hr : OkR row) (l : List X) (hx : OkX l) (R : List Bool) (n k : Nat) : OkR (pvs row l R n k) := by
  intro v hv
  unfold pvs at hv
  obtain ⟨j, _, rfl⟩ := List.mem_map.1 hv
  split
  · exact okR_at (evs_ok row hr l hx) j
  · exact okN_nul
theorem okR_take {row : List V} (h : OkR row) (k : Nat) : OkR (row.take k) := fun v hv => h v (List.mem_of_mem_take hv)

theorem Arr.put3 {e : TypeId} {W w : World} {g : Nat} {l : List V} (h : Arr e W w g l) (i : Nat) (p q : Int) (t : List UInt8) (hi : i < l.length) : Arr e W (((w.setCell ⟨g, i * 3, none⟩ (.int .i64 p)).setCell ⟨g, i * 3 + 1, none⟩ (.int .i64 q)).setCell ⟨g, i * 3 + 2, none⟩ (sv t)) g (l.set i ⟨p, q, t⟩) := (h.put i ⟨p, q, t⟩ hi).1
theorem Arr.c3 {e : TypeId} {W w : World} {g : Nat} {l : List V} (h : Arr e W w g l) (i : Nat) (v : V) (hi : i < l.length) (hv : l.getD i nul = v) : w.cell? ⟨g, i * 3, none⟩ = some (.int .i64 v.k) ∧ w.cell? ⟨g, i * 3 + 1, none⟩ = some (.int .i64 v.n) ∧ w.cell? ⟨g, i * 3 + 2, none⟩ = some (sv v.s) := by
  rw [getD_at l nul i hi] at hv
  subst hv
  exact ⟨h.cell i 0 _ hi rfl, h.cell i 1 _ hi rfl, h.cell i 2 _ hi rfl⟩
theorem pvs_here (row : List V) (l : List X) (R : List Bool) (n k : Nat) (hk : k < n) : (pvs row l R n k).getD k nul = nul := by rw [pvs_at _ _ _ _ _ _ hk, if_neg (by omega)]
def evlV (l : List X) (root : Int) (row : List V) : V := if isIx root l.length = false then nul else atV (evs row l) root
def EvR (W : World) (l : List X) (row : List V) (r : Nat) (i : Value) (wr : World) : Prop := ∃ k : Nat, k ≤ r + 1 ∧ i = .int .i64 k ∧ Arr tV.e W wr W.heap.size (pvs row l (rea l r) (r + 1) k)
theorem box3 (w : World) (a b c : Value) (t : TypeId) : (w.alloc (.cells #[a, b, c] t)).cell? ⟨w.heap.size, 0, none⟩ = some a ∧ (w.alloc (.cells #[a, b, c] t)).cell? ⟨w.heap.size, 1, none⟩ = some b ∧ (w.alloc (.cells #[a, b, c] t)).cell? ⟨w.heap.size, 2, none⟩ = some c :=
  ⟨al_c w #[a, b, c] t 0 a rfl, al_c w #[a, b, c] t 1 b rfl, al_c w #[a, b, c] t 2 c rfl⟩
set_option maxHeartbeats 4000000 in
set_option maxRecDepth 100000 in
theorem eval_no (l : List X) (root : Int) (row : List V) (vl vr : Value) (w : World) (hl : RdG w vl l) (hb : isIx root l.length = false) :
    Calls Try.prog 15 #[vl, .int .i64 root, vr] w fun e w' => e = .returned (vv (evlV l root row)) ∧ Ext w w' := by
  obtain ⟨al, cl, rfl, ll1, ll2⟩ := hl.shape
  have H := Lib.hid (show evlV l root row = nul by unfold evlV; rw [if_pos hb])
  have hI := isx_prg root l.length
  rw [hb] at hI
  have HI := Lib.hid hI
  clear hI hb hl ll1 ll2
  go_enter Try.func15, Try.ntmps15
  obtain ⟨k0, k1, k2⟩ := box3 w (.int .i64 0) (.int .i64 0) (sv []) 34
  go_wp2_with fail
  refine (HI.out _).mono ?_; rintro e w1 ⟨rfl, rfl⟩
  go_wp2_with fail
  rw [show (evlV l root row) = nul from H.out]
  exact bodyPost_ret (v := vv nul) (by simp [results, Try.results15, go_sem, k0, k1, k2, vv, nul]) rfl ⟨rfl, by repeat (first | exact Ext.refl _ | refine Ext.alloc ?_ _ _ | refine Ext.setNew ?_ _ _ (by simp; try omega) _)⟩
end Go.Proofs.Ytdamlnfjhpmpmaa
