/- Contracts of Intersect, the program's and the reference's. -/
import Derived.Test.YtckknhocmbhmhaaPr0
namespace Go.Proofs.Ytckknhocmbhmhaa
open Go.ChangeShapes Go.WideShapes Go.ChangeAt Go.RowKit

def mxF (a c : Int) : Int := if a < c then c else a
def mnF (b d : Int) : Int := if d < b then d else b
def itB (a b c d : Int) : Bool := okV a b && okV c d && decide (mxF a c < mnF b d)
def itF (a b c d : Int) : Int := if itB a b c d = true then mxF a c else 0
def itT (a b c d : Int) : Int := if itB a b c d = true then mnF b d else 0
theorem it_yes {a b c d : Int} (h : okV a b = true) (k : okV c d = true) (l : mxF a c < mnF b d) : itB a b c d = true ∧ itF a b c d = mxF a c ∧ itT a b c d = mnF b d := by
  have : itB a b c d = true := by simp [itB, h, k, l]
  simp [itF, itT, this]
theorem it_no {a b c d : Int} (h : itB a b c d = false) : itF a b c d = 0 ∧ itT a b c d = 0 := by simp [itF, itT, h]

/-- the boxes of two periods and a third block, behind a call that grows the world -/
theorem boxes3 {w w2 : World} {a b c d x y : Value} {t u v : TypeId} (hg : Grown (((w.alloc (.cells #[a, b] t)).alloc (.cells #[c, d] u)).alloc (.cells #[x, y] v)) w2) :
    w2.cell? ⟨w.heap.size, 0, none⟩ = some a ∧ w2.cell? ⟨w.heap.size, 1, none⟩ = some b ∧ w2.cell? ⟨w.heap.size + 1, 0, none⟩ = some c ∧ w2.cell? ⟨w.heap.size + 1, 1, none⟩ = some d ∧
    w2.cell? ⟨w.heap.size + 2, 0, none⟩ = some x ∧ w2.cell? ⟨w.heap.size + 2, 1, none⟩ = some y ∧ w2.frozen? ⟨w.heap.size + 2, 0, none⟩ = false ∧ w2.frozen? ⟨w.heap.size + 2, 1, none⟩ = false ∧ w.heap.size + 2 < w2.heap.size := by
  obtain ⟨k0, k1, k2, k3⟩ := boxes (w := w) (a := a) (b := b) (c := c) (d := d) (t := t) (u := u) ((Grown.refl _).alloc #[x, y] v) hg
  have hs : ((w.alloc (.cells #[a, b] t)).alloc (.cells #[c, d] u)).heap.size = w.heap.size + 2 := by simp
  refine ⟨k0, k1, k2, k3, ?_, ?_, ?_, ?_, ?_⟩
  · rw [← hs]; exact kept hg (al0 _ _ _ _)
  · rw [← hs]; exact kept hg (al1 _ _ _ _)
  · rw [hg.2.1, frozen?_alloc_cells, frozen?_alloc_cells, frozen?_alloc_cells]; exact frozen_new _ _ _ (by omega)
  · rw [hg.2.1, frozen?_alloc_cells, frozen?_alloc_cells, frozen?_alloc_cells]; exact frozen_new _ _ _ (by omega)
  · have := hg.2.2; simp at this; omega
set_option maxHeartbeats 4000000 in
theorem pis0y (a b c d : Int) (w : World) (h : okV a b = true) (k : okV c d = true) (hp : a < c) (hq : d < b) : Calls Try.prog 40 #[pv a b, pv c d] w fun e w' => e = .returned (.tuple #[pv c d, .bool true]) ∧ Grown w w' := by
  obtain ⟨_, j1, _⟩ := (okV_iff a b).1 h
  obtain ⟨_, l1, _⟩ := (okV_iff c d).1 k
  have HV := Lib.hid h
  have KV := Lib.hid k
  clear h k
  go_enter Try.func40, Try.ntmps40
  go_wp2_with fail
  refine (vpp_yes _ _ _ HV.out).mono ?_; rintro e w1 ⟨rfl, hg⟩
  obtain ⟨hc, hf⟩ := gcell hg
  obtain ⟨hz', hz⟩ : w.heap.size < w1.heap.size ∧ w.heap.size + 1 < w1.heap.size := by have := hg.2.2; simp at this; omega
  go_wp2_with fail
  refine (vpp_yes _ _ _ KV.out).mono ?_; rintro e w2 ⟨rfl, hg2⟩
  have hE : Grown w w2 := grown_trans (grown_trans ((((Grown.refl _).alloc _ _).alloc _ _).alloc _ _) hg) hg2
  obtain ⟨k0, k1, k2, k3, k4, k5, k6, k7, k8⟩ := boxes3 (grown_trans hg hg2)
  clear hc hf hg hg2
  go_wp2_with fail
  exact bodyPost_ret (v := .tuple #[pv c d, .bool true]) (by simp [results, Try.results40, go_sem, k4, k5, k8]) rfl ⟨rfl, ((hE.setCell (by simp <;> omega) _).setCell (by simp <;> omega) _).alloc _ _⟩
set_option maxHeartbeats 4000000 in
theorem pis1y (a b c d : Int) (w : World) (h : okV a b = true) (k : okV c d = true) (hp : a < c) (hq : b ≤ d) (ht : c < b) : Calls Try.prog 40 #[pv a b, pv c d] w fun e w' => e = .returned (.tuple #[pv c b, .bool true]) ∧ Grown w w' := by
  obtain ⟨_, j1, _⟩ := (okV_iff a b).1 h
  obtain ⟨_, l1, _⟩ := (okV_iff c d).1 k
  have HV := Lib.hid h
  have KV := Lib.hid k
  clear h k
  go_enter Try.func40, Try.ntmps40
  go_wp2_with fail
  refine (vpp_yes _ _ _ HV.out).mono ?_; rintro e w1 ⟨rfl, hg⟩
  obtain ⟨hc, hf⟩ := gcell hg
  obtain ⟨hz', hz⟩ : w.heap.size < w1.heap.size ∧ w.heap.size + 1 < w1.heap.size := by have := hg.2.2; simp at this; omega
  go_wp2_with fail
  refine (vpp_yes _ _ _ KV.out).mono ?_; rintro e w2 ⟨rfl, hg2⟩
  have hE : Grown w w2 := grown_trans (grown_trans ((((Grown.refl _).alloc _ _).alloc _ _).alloc _ _) hg) hg2
  obtain ⟨k0, k1, k2, k3, k4, k5, k6, k7, k8⟩ := boxes3 (grown_trans hg hg2)
  clear hc hf hg hg2
  go_wp2_with fail
  exact bodyPost_ret (v := .tuple #[pv c b, .bool true]) (by simp [results, Try.results40, go_sem, k4, k5, k8]) rfl ⟨rfl, ((hE.setCell (by simp <;> omega) _).setCell (by simp <;> omega) _).alloc _ _⟩
set_option maxHeartbeats 4000000 in
theorem pis1n (a b c d : Int) (w : World) (h : okV a b = true) (k : okV c d = true) (hp : a < c) (hq : b ≤ d) (ht : b ≤ c) : Calls Try.prog 40 #[pv a b, pv c d] w fun e w' => e = .returned (.tuple #[pv 0 0, .bool false]) ∧ Grown w w' := by
  obtain ⟨_, j1, _⟩ := (okV_iff a b).1 h
  obtain ⟨_, l1, _⟩ := (okV_iff c d).1 k
  have HV := Lib.hid h
  have KV := Lib.hid k
  clear h k
  go_enter Try.func40, Try.ntmps40
  go_wp2_with fail
  refine (vpp_yes _ _ _ HV.out).mono ?_; rintro e w1 ⟨rfl, hg⟩
  obtain ⟨hc, hf⟩ := gcell hg
  obtain ⟨hz', hz⟩ : w.heap.size < w1.heap.size ∧ w.heap.size + 1 < w1.heap.size := by have := hg.2.2; simp at this; omega
  go_wp2_with fail
  refine (vpp_yes _ _ _ KV.out).mono ?_; rintro e w2 ⟨rfl, hg2⟩
  have hE : Grown w w2 := grown_trans (grown_trans ((((Grown.refl _).alloc _ _).alloc _ _).alloc _ _) hg) hg2
  obtain ⟨k0, k1, k2, k3, k4, k5, k6, k7, k8⟩ := boxes3 (grown_trans hg hg2)
  clear hc hf hg hg2
  go_wp2_with fail
  exact bodyPost_ret (v := .tuple #[pv 0 0, .bool false]) (by simp [results, Try.results40, go_sem, k4, k5, k8]) rfl ⟨rfl, ((hE.setCell (by simp <;> omega) _).setCell (by simp <;> omega) _).alloc _ _⟩
set_option maxHeartbeats 4000000 in
theorem pis2y (a b c d : Int) (w : World) (h : okV a b = true) (k : okV c d = true) (hp : c ≤ a) (hq : d < b) (ht : a < d) : Calls Try.prog 40 #[pv a b, pv c d] w fun e w' => e = .returned (.tuple #[pv a d, .bool true]) ∧ Grown w w' := by
  obtain ⟨_, j1, _⟩ := (okV_iff a b).1 h
  obtain ⟨_, l1, _⟩ := (okV_iff c d).1 k
  have HV := Lib.hid h
  have KV := Lib.hid k
  clear h k
  go_enter Try.func40, Try.ntmps40
  go_wp2_with fail
  refine (vpp_yes _ _ _ HV.out).mono ?_; rintro e w1 ⟨rfl, hg⟩
  obtain ⟨hc, hf⟩ := gcell hg
  obtain ⟨hz', hz⟩ : w.heap.size < w1.heap.size ∧ w.heap.size + 1 < w1.heap.size := by have := hg.2.2; simp at this; omega
  go_wp2_with fail
  refine (vpp_yes _ _ _ KV.out).mono ?_; rintro e w2 ⟨rfl, hg2⟩
  have hE : Grown w w2 := grown_trans (grown_trans ((((Grown.refl _).alloc _ _).alloc _ _).alloc _ _) hg) hg2
  obtain ⟨k0, k1, k2, k3, k4, k5, k6, k7, k8⟩ := boxes3 (grown_trans hg hg2)
  clear hc hf hg hg2
  go_wp2_with fail
  exact bodyPost_ret (v := .tuple #[pv a d, .bool true]) (by simp [results, Try.results40, go_sem, k4, k5, k8]) rfl ⟨rfl, ((hE.setCell (by simp <;> omega) _).setCell (by simp <;> omega) _).alloc _ _⟩
set_option maxHeartbeats 4000000 in
theorem pis2n (a b c d : Int) (w : World) (h : okV a b = true) (k : okV c d = true) (hp : c ≤ a) (hq : d < b) (ht : d ≤ a) : Calls Try.prog 40 #[pv a b, pv c d] w fun e w' => e = .returned (.tuple #[pv 0 0, .bool false]) ∧ Grown w w' := by
  obtain ⟨_, j1, _⟩ := (okV_iff a b).1 h
  obtain ⟨_, l1, _⟩ := (okV_iff c d).1 k
  have HV := Lib.hid h
  have KV := Lib.hid k
  clear h k
  go_enter Try.func40, Try.ntmps40
  go_wp2_with fail
  refine (vpp_yes _ _ _ HV.out).mono ?_; rintro e w1 ⟨rfl, hg⟩
  obtain ⟨hc, hf⟩ := gcell hg
  obtain ⟨hz', hz⟩ : w.heap.size < w1.heap.size ∧ w.heap.size + 1 < w1.heap.size := by have := hg.2.2; simp at this; omega
  go_wp2_with fail
  refine (vpp_yes _ _ _ KV.out).mono ?_; rintro e w2 ⟨rfl, hg2⟩
  have hE : Grown w w2 := grown_trans (grown_trans ((((Grown.refl _).alloc _ _).alloc _ _).alloc _ _) hg) hg2
  obtain ⟨k0, k1, k2, k3, k4, k5, k6, k7, k8⟩ := boxes3 (grown_trans hg hg2)
  clear hc hf hg hg2
  go_wp2_with fail
  exact bodyPost_ret (v := .tuple #[pv 0 0, .bool false]) (by simp [results, Try.results40, go_sem, k4, k5, k8]) rfl ⟨rfl, ((hE.setCell (by simp <;> omega) _).setCell (by simp <;> omega) _).alloc _ _⟩
set_option maxHeartbeats 4000000 in
theorem pis3y (a b c d : Int) (w : World) (h : okV a b = true) (k : okV c d = true) (hp : c ≤ a) (hq : b ≤ d) : Calls Try.prog 40 #[pv a b, pv c d] w fun e w' => e = .returned (.tuple #[pv a b, .bool true]) ∧ Grown w w' := by
  obtain ⟨_, j1, _⟩ := (okV_iff a b).1 h
  obtain ⟨_, l1, _⟩ := (okV_iff c d).1 k
  have HV := Lib.hid h
  have KV := Lib.hid k
  clear h k
  go_enter Try.func40, Try.ntmps40
  go_wp2_with fail
  refine (vpp_yes _ _ _ HV.out).mono ?_; rintro e w1 ⟨rfl, hg⟩
  obtain ⟨hc, hf⟩ := gcell hg
  obtain ⟨hz', hz⟩ : w.heap.size < w1.heap.size ∧ w.heap.size + 1 < w1.heap.size := by have := hg.2.2; simp at this; omega
  go_wp2_with fail
  refine (vpp_yes _ _ _ KV.out).mono ?_; rintro e w2 ⟨rfl, hg2⟩
  have hE : Grown w w2 := grown_trans (grown_trans ((((Grown.refl _).alloc _ _).alloc _ _).alloc _ _) hg) hg2
  obtain ⟨k0, k1, k2, k3, k4, k5, k6, k7, k8⟩ := boxes3 (grown_trans hg hg2)
  clear hc hf hg hg2
  go_wp2_with fail
  exact bodyPost_ret (v := .tuple #[pv a b, .bool true]) (by simp [results, Try.results40, go_sem, k4, k5, k8]) rfl ⟨rfl, ((hE.setCell (by simp <;> omega) _).setCell (by simp <;> omega) _).alloc _ _⟩
/-- the fourth block -/
theorem box4 {w w2 : World} {a b c d x y p q : Value} {t u v v' : TypeId} (hg : Grown ((((w.alloc (.cells #[a, b] t)).alloc (.cells #[c, d] u)).alloc (.cells #[x, y] v)).alloc (.cells #[p, q] v')) w2) :
    w2.cell? ⟨w.heap.size + 3, 0, none⟩ = some p ∧ w2.cell? ⟨w.heap.size + 3, 1, none⟩ = some q := by
  have hs : (((w.alloc (.cells #[a, b] t)).alloc (.cells #[c, d] u)).alloc (.cells #[x, y] v)).heap.size = w.heap.size + 3 := by simp
  exact ⟨by rw [← hs]; exact kept hg (al0 _ _ _ _), by rw [← hs]; exact kept hg (al1 _ _ _ _)⟩
set_option maxHeartbeats 4000000 in
theorem ris0y (a b c d : Int) (w : World) (h : okV a b = true) (k : okV c d = true) (hp : a < c) (hq : d < b) : Calls Try.prog 33 #[pv a b, pv c d] w fun e w' => e = .returned (.tuple #[pv c d, .bool true]) ∧ Grown w w' := by
  obtain ⟨_, j1, _⟩ := (okV_iff a b).1 h
  obtain ⟨_, l1, _⟩ := (okV_iff c d).1 k
  have HV := Lib.hid h
  have KV := Lib.hid k
  clear h k
  go_enter Try.func33, Try.ntmps33
  go_wp2_with fail
  refine (vp_yes _ _ _ HV.out).mono ?_; rintro e w1 ⟨rfl, hg⟩
  obtain ⟨hc, hf⟩ := gcell hg
  obtain ⟨hz', hz, hy, hy'⟩ : w.heap.size < w1.heap.size ∧ w.heap.size + 1 < w1.heap.size ∧ w.heap.size + 2 < w1.heap.size ∧ w.heap.size + 3 < w1.heap.size := by have := hg.2.2; simp at this; omega
  go_wp2_with fail
  refine (vp_yes _ _ _ KV.out).mono ?_; rintro e w2 ⟨rfl, hg2⟩
  have hE : Grown w w2 := grown_trans (grown_trans (((((Grown.refl _).alloc _ _).alloc _ _).alloc _ _).alloc _ _) hg) hg2
  obtain ⟨k0, k1, k2, k3, k4, k5, k6, k7, k8⟩ := boxes3 (grown_trans ((Grown.refl _).alloc _ _) (grown_trans hg hg2))
  obtain ⟨m0, m1⟩ := box4 (grown_trans hg hg2)
  clear hc hf hg hg2
  go_wp2_with fail
  exact bodyPost_ret (v := .tuple #[pv c d, .bool true]) (by simp [results, Try.results33, go_sem, k4, k5]) rfl ⟨rfl, (hE.setCell (by simp <;> omega) _).setCell (by simp <;> omega) _⟩
set_option maxHeartbeats 4000000 in
theorem ris1y (a b c d : Int) (w : World) (h : okV a b = true) (k : okV c d = true) (hp : a < c) (hq : b ≤ d) (ht : c < b) : Calls Try.prog 33 #[pv a b, pv c d] w fun e w' => e = .returned (.tuple #[pv c b, .bool true]) ∧ Grown w w' := by
  obtain ⟨_, j1, _⟩ := (okV_iff a b).1 h
  obtain ⟨_, l1, _⟩ := (okV_iff c d).1 k
  have HV := Lib.hid h
  have KV := Lib.hid k
  clear h k
  go_enter Try.func33, Try.ntmps33
  go_wp2_with fail
  refine (vp_yes _ _ _ HV.out).mono ?_; rintro e w1 ⟨rfl, hg⟩
  obtain ⟨hc, hf⟩ := gcell hg
  obtain ⟨hz', hz, hy, hy'⟩ : w.heap.size < w1.heap.size ∧ w.heap.size + 1 < w1.heap.size ∧ w.heap.size + 2 < w1.heap.size ∧ w.heap.size + 3 < w1.heap.size := by have := hg.2.2; simp at this; omega
  go_wp2_with fail
  refine (vp_yes _ _ _ KV.out).mono ?_; rintro e w2 ⟨rfl, hg2⟩
  have hE : Grown w w2 := grown_trans (grown_trans (((((Grown.refl _).alloc _ _).alloc _ _).alloc _ _).alloc _ _) hg) hg2
  obtain ⟨k0, k1, k2, k3, k4, k5, k6, k7, k8⟩ := boxes3 (grown_trans ((Grown.refl _).alloc _ _) (grown_trans hg hg2))
  obtain ⟨m0, m1⟩ := box4 (grown_trans hg hg2)
  clear hc hf hg hg2
  go_wp2_with fail
  exact bodyPost_ret (v := .tuple #[pv c b, .bool true]) (by simp [results, Try.results33, go_sem, k4, k5]) rfl ⟨rfl, (hE.setCell (by simp <;> omega) _).setCell (by simp <;> omega) _⟩
set_option maxHeartbeats 4000000 in
theorem ris1n (a b c d : Int) (w : World) (h : okV a b = true) (k : okV c d = true) (hp : a < c) (hq : b ≤ d) (ht : b ≤ c) : Calls Try.prog 33 #[pv a b, pv c d] w fun e w' => e = .returned (.tuple #[pv 0 0, .bool false]) ∧ Grown w w' := by
  obtain ⟨_, j1, _⟩ := (okV_iff a b).1 h
  obtain ⟨_, l1, _⟩ := (okV_iff c d).1 k
  have HV := Lib.hid h
  have KV := Lib.hid k
  clear h k
  go_enter Try.func33, Try.ntmps33
  go_wp2_with fail
  refine (vp_yes _ _ _ HV.out).mono ?_; rintro e w1 ⟨rfl, hg⟩
  obtain ⟨hc, hf⟩ := gcell hg
  obtain ⟨hz', hz, hy, hy'⟩ : w.heap.size < w1.heap.size ∧ w.heap.size + 1 < w1.heap.size ∧ w.heap.size + 2 < w1.heap.size ∧ w.heap.size + 3 < w1.heap.size := by have := hg.2.2; simp at this; omega
  go_wp2_with fail
  refine (vp_yes _ _ _ KV.out).mono ?_; rintro e w2 ⟨rfl, hg2⟩
  have hE : Grown w w2 := grown_trans (grown_trans (((((Grown.refl _).alloc _ _).alloc _ _).alloc _ _).alloc _ _) hg) hg2
  obtain ⟨k0, k1, k2, k3, k4, k5, k6, k7, k8⟩ := boxes3 (grown_trans ((Grown.refl _).alloc _ _) (grown_trans hg hg2))
  obtain ⟨m0, m1⟩ := box4 (grown_trans hg hg2)
  clear hc hf hg hg2
  go_wp2_with fail
  exact bodyPost_ret (v := .tuple #[pv 0 0, .bool false]) (by simp [results, Try.results33, go_sem, k4, k5]) rfl ⟨rfl, (hE.setCell (by simp <;> omega) _).setCell (by simp <;> omega) _⟩
set_option maxHeartbeats 4000000 in
theorem ris2y (a b c d : Int) (w : World) (h : okV a b = true) (k : okV c d = true) (hp : c ≤ a) (hq : d < b) (ht : a < d) : Calls Try.prog 33 #[pv a b, pv c d] w fun e w' => e = .returned (.tuple #[pv a d, .bool true]) ∧ Grown w w' := by
  obtain ⟨_, j1, _⟩ := (okV_iff a b).1 h
  obtain ⟨_, l1, _⟩ := (okV_iff c d).1 k
  have HV := Lib.hid h
  have KV := Lib.hid k
  clear h k
  go_enter Try.func33, Try.ntmps33
  go_wp2_with fail
  refine (vp_yes _ _ _ HV.out).mono ?_; rintro e w1 ⟨rfl, hg⟩
  obtain ⟨hc, hf⟩ := gcell hg
  obtain ⟨hz', hz, hy, hy'⟩ : w.heap.size < w1.heap.size ∧ w.heap.size + 1 < w1.heap.size ∧ w.heap.size + 2 < w1.heap.size ∧ w.heap.size + 3 < w1.heap.size := by have := hg.2.2; simp at this; omega
  go_wp2_with fail
  refine (vp_yes _ _ _ KV.out).mono ?_; rintro e w2 ⟨rfl, hg2⟩
  have hE : Grown w w2 := grown_trans (grown_trans (((((Grown.refl _).alloc _ _).alloc _ _).alloc _ _).alloc _ _) hg) hg2
  obtain ⟨k0, k1, k2, k3, k4, k5, k6, k7, k8⟩ := boxes3 (grown_trans ((Grown.refl _).alloc _ _) (grown_trans hg hg2))
  obtain ⟨m0, m1⟩ := box4 (grown_trans hg hg2)
  clear hc hf hg hg2
  go_wp2_with fail
  exact bodyPost_ret (v := .tuple #[pv a d, .bool true]) (by simp [results, Try.results33, go_sem, k4, k5]) rfl ⟨rfl, (hE.setCell (by simp <;> omega) _).setCell (by simp <;> omega) _⟩
set_option maxHeartbeats 4000000 in
theorem ris2n (a b c d : Int) (w : World) (h : okV a b = true) (k : okV c d = true) (hp : c ≤ a) (hq : d < b) (ht : d ≤ a) : Calls Try.prog 33 #[pv a b, pv c d] w fun e w' => e = .returned (.tuple #[pv 0 0, .bool false]) ∧ Grown w w' := by
  obtain ⟨_, j1, _⟩ := (okV_iff a b).1 h
  obtain ⟨_, l1, _⟩ := (okV_iff c d).1 k
  have HV := Lib.hid h
  have KV := Lib.hid k
  clear h k
  go_enter Try.func33, Try.ntmps33
  go_wp2_with fail
  refine (vp_yes _ _ _ HV.out).mono ?_; rintro e w1 ⟨rfl, hg⟩
  obtain ⟨hc, hf⟩ := gcell hg
  obtain ⟨hz', hz, hy, hy'⟩ : w.heap.size < w1.heap.size ∧ w.heap.size + 1 < w1.heap.size ∧ w.heap.size + 2 < w1.heap.size ∧ w.heap.size + 3 < w1.heap.size := by have := hg.2.2; simp at this; omega
  go_wp2_with fail
  refine (vp_yes _ _ _ KV.out).mono ?_; rintro e w2 ⟨rfl, hg2⟩
  have hE : Grown w w2 := grown_trans (grown_trans (((((Grown.refl _).alloc _ _).alloc _ _).alloc _ _).alloc _ _) hg) hg2
  obtain ⟨k0, k1, k2, k3, k4, k5, k6, k7, k8⟩ := boxes3 (grown_trans ((Grown.refl _).alloc _ _) (grown_trans hg hg2))
  obtain ⟨m0, m1⟩ := box4 (grown_trans hg hg2)
  clear hc hf hg hg2
  go_wp2_with fail
  exact bodyPost_ret (v := .tuple #[pv 0 0, .bool false]) (by simp [results, Try.results33, go_sem, k4, k5]) rfl ⟨rfl, (hE.setCell (by simp <;> omega) _).setCell (by simp <;> omega) _⟩
set_option maxHeartbeats 4000000 in
theorem ris3y (a b c d : Int) (w : World) (h : okV a b = true) (k : okV c d = true) (hp : c ≤ a) (hq : b ≤ d) : Calls Try.prog 33 #[pv a b, pv c d] w fun e w' => e = .returned (.tuple #[pv a b, .bool true]) ∧ Grown w w' := by
  obtain ⟨_, j1, _⟩ := (okV_iff a b).1 h
  obtain ⟨_, l1, _⟩ := (okV_iff c d).1 k
  have HV := Lib.hid h
  have KV := Lib.hid k
  clear h k
  go_enter Try.func33, Try.ntmps33
  go_wp2_with fail
  refine (vp_yes _ _ _ HV.out).mono ?_; rintro e w1 ⟨rfl, hg⟩
  obtain ⟨hc, hf⟩ := gcell hg
  obtain ⟨hz', hz, hy, hy'⟩ : w.heap.size < w1.heap.size ∧ w.heap.size + 1 < w1.heap.size ∧ w.heap.size + 2 < w1.heap.size ∧ w.heap.size + 3 < w1.heap.size := by have := hg.2.2; simp at this; omega
  go_wp2_with fail
  refine (vp_yes _ _ _ KV.out).mono ?_; rintro e w2 ⟨rfl, hg2⟩
  have hE : Grown w w2 := grown_trans (grown_trans (((((Grown.refl _).alloc _ _).alloc _ _).alloc _ _).alloc _ _) hg) hg2
  obtain ⟨k0, k1, k2, k3, k4, k5, k6, k7, k8⟩ := boxes3 (grown_trans ((Grown.refl _).alloc _ _) (grown_trans hg hg2))
  obtain ⟨m0, m1⟩ := box4 (grown_trans hg hg2)
  clear hc hf hg hg2
  go_wp2_with fail
  exact bodyPost_ret (v := .tuple #[pv a b, .bool true]) (by simp [results, Try.results33, go_sem, k4, k5]) rfl ⟨rfl, (hE.setCell (by simp <;> omega) _).setCell (by simp <;> omega) _⟩
set_option maxHeartbeats 4000000 in
theorem pis_bad (a b c d : Int) (w : World) (h : okV a b = false ∨ okV c d = false) : Calls Try.prog 40 #[pv a b, pv c d] w fun e w' => e = .returned (.tuple #[pv 0 0, .bool false]) ∧ Grown w w' := by
  cases h1 : okV a b
  · have HV := Lib.hid h1
    clear h h1
    go_enter Try.func40, Try.ntmps40
    go_wp2_with fail
    refine (vpp_no _ _ _ HV.out).mono ?_; rintro e w1 ⟨rfl, hg⟩
    have hE : Grown w w1 := grown_trans ((((Grown.refl _).alloc _ _).alloc _ _).alloc _ _) hg
    obtain ⟨k0, k1, k2, k3, k4, k5, k6, k7, k8⟩ := boxes3 hg
    clear hg
    go_wp2_with fail
    exact bodyPost_ret (v := .tuple #[pv 0 0, .bool false]) (by simp [results, Try.results40, go_sem, k4, k5]) rfl ⟨rfl, (hE.setCell (by simp <;> omega) _).setCell (by simp <;> omega) _⟩
  · have HV := Lib.hid h1
    have KV := Lib.hid (show okV c d = false by rcases h with h | h; · rw [h1] at h; cases h
                                                exact h)
    clear h h1
    go_enter Try.func40, Try.ntmps40
    go_wp2_with fail
    refine (vpp_yes _ _ _ HV.out).mono ?_; rintro e w1 ⟨rfl, hg⟩
    obtain ⟨hc, hf⟩ := gcell hg
    obtain ⟨hz', hz⟩ : w.heap.size < w1.heap.size ∧ w.heap.size + 1 < w1.heap.size := by have := hg.2.2; simp at this; omega
    go_wp2_with fail
    refine (vpp_no _ _ _ KV.out).mono ?_; rintro e w2 ⟨rfl, hg2⟩
    have hE : Grown w w2 := grown_trans (grown_trans ((((Grown.refl _).alloc _ _).alloc _ _).alloc _ _) hg) hg2
    obtain ⟨k0, k1, k2, k3, k4, k5, k6, k7, k8⟩ := boxes3 (grown_trans hg hg2)
    clear hc hf hg hg2
    go_wp2_with fail
    exact bodyPost_ret (v := .tuple #[pv 0 0, .bool false]) (by simp [results, Try.results40, go_sem, k4, k5]) rfl ⟨rfl, ((hE.setCell (by simp <;> omega) _).setCell (by simp <;> omega) _)⟩
set_option maxHeartbeats 4000000 in
theorem ris_bad (a b c d : Int) (w : World) (h : okV a b = false ∨ okV c d = false) : Calls Try.prog 33 #[pv a b, pv c d] w fun e w' => e = .returned (.tuple #[pv 0 0, .bool false]) ∧ Grown w w' := by
  cases h1 : okV a b
  · have HV := Lib.hid h1
    clear h h1
    go_enter Try.func33, Try.ntmps33
    go_wp2_with fail
    all_goals
      refine (vp_no _ _ _ HV.out).mono ?_; rintro e w1 ⟨rfl, hg⟩
      have hE : Grown w w1 := grown_trans (((((Grown.refl _).alloc _ _).alloc _ _).alloc _ _).alloc _ _) hg
      obtain ⟨k0, k1, k2, k3, k4, k5, k6, k7, k8⟩ := boxes3 (grown_trans ((Grown.refl _).alloc _ _) hg)
      clear hg
      go_wp2_with fail
      exact bodyPost_ret (v := .tuple #[pv 0 0, .bool false]) (by simp [results, Try.results33, go_sem, k4, k5]) rfl ⟨rfl, (hE.setCell (by simp <;> omega) _).setCell (by simp <;> omega) _⟩
  · have HV := Lib.hid h1
    have KV := Lib.hid (show okV c d = false by rcases h with h | h; · rw [h1] at h; cases h
                                                exact h)
    clear h h1
    go_enter Try.func33, Try.ntmps33
    go_wp2_with fail
    all_goals
      refine (vp_yes _ _ _ HV.out).mono ?_; rintro e w1 ⟨rfl, hg⟩
      obtain ⟨hc, hf⟩ := gcell hg
      obtain ⟨hz', hz, hy, hy'⟩ : w.heap.size < w1.heap.size ∧ w.heap.size + 1 < w1.heap.size ∧ w.heap.size + 2 < w1.heap.size ∧ w.heap.size + 3 < w1.heap.size := by have := hg.2.2; simp at this; omega
      go_wp2_with fail
      refine (vp_no _ _ _ KV.out).mono ?_; rintro e w2 ⟨rfl, hg2⟩
      have hE : Grown w w2 := grown_trans (grown_trans (((((Grown.refl _).alloc _ _).alloc _ _).alloc _ _).alloc _ _) hg) hg2
      obtain ⟨k0, k1, k2, k3, k4, k5, k6, k7, k8⟩ := boxes3 (grown_trans ((Grown.refl _).alloc _ _) (grown_trans hg hg2))
      clear hc hf hg hg2
      go_wp2_with fail
      exact bodyPost_ret (v := .tuple #[pv 0 0, .bool false]) (by simp [results, Try.results33, go_sem, k4, k5]) rfl ⟨rfl, (hE.setCell (by simp <;> omega) _).setCell (by simp <;> omega) _⟩
theorem is_per (a b c d : Int) (w : World) : Calls Try.prog 40 #[pv a b, pv c d] w fun e w' => e = .returned (.tuple #[pv (itF a b c d) (itT a b c d), .bool (itB a b c d)]) ∧ Grown w w' := by
  by_cases hh : okV a b = true ∧ okV c d = true
  · obtain ⟨h, k⟩ := hh
    obtain ⟨_, j1, _⟩ := (okV_iff a b).1 h
    obtain ⟨_, l1, _⟩ := (okV_iff c d).1 k
    by_cases hp : a < c <;> by_cases hq : d < b
    · have ex : mxF a c = c := if_pos hp
      have en : mnF b d = d := if_pos hq
      obtain ⟨e1, e2, e3⟩ := it_yes h k (by rw [ex, en]; exact l1)
      rw [e1, e2, e3, ex, en]; exact pis0y a b c d w h k hp hq
    · have ex : mxF a c = c := if_pos hp
      have en : mnF b d = b := if_neg hq
      by_cases ht : c < b
      · obtain ⟨e1, e2, e3⟩ := it_yes h k (by rw [ex, en]; exact ht)
        rw [e1, e2, e3, ex, en]; exact pis1y a b c d w h k hp (by omega) ht
      · have e1 : itB a b c d = false := by simp [itB, ex, en]; intros; omega
        rw [e1, (it_no e1).1, (it_no e1).2]; exact pis1n a b c d w h k hp (by omega) (by omega)
    · have ex : mxF a c = a := if_neg hp
      have en : mnF b d = d := if_pos hq
      by_cases ht : a < d
      · obtain ⟨e1, e2, e3⟩ := it_yes h k (by rw [ex, en]; exact ht)
        rw [e1, e2, e3, ex, en]; exact pis2y a b c d w h k (by omega) hq ht
      · have e1 : itB a b c d = false := by simp [itB, ex, en]; intros; omega
        rw [e1, (it_no e1).1, (it_no e1).2]; exact pis2n a b c d w h k (by omega) hq (by omega)
    · have ex : mxF a c = a := if_neg hp
      have en : mnF b d = b := if_neg hq
      obtain ⟨e1, e2, e3⟩ := it_yes h k (by rw [ex, en]; exact j1)
      rw [e1, e2, e3, ex, en]; exact pis3y a b c d w h k (by omega) (by omega)
  · have hb : okV a b = false ∨ okV c d = false := by
      cases h1 : okV a b
      · exact Or.inl rfl
      · cases h2 : okV c d
        · exact Or.inr rfl
        · exact absurd ⟨h1, h2⟩ hh
    have e1 : itB a b c d = false := by rcases hb with h | h <;> simp [itB, h]
    rw [e1, (it_no e1).1, (it_no e1).2]; exact pis_bad a b c d w hb
theorem is_ref (a b c d : Int) (w : World) : Calls Try.prog 33 #[pv a b, pv c d] w fun e w' => e = .returned (.tuple #[pv (itF a b c d) (itT a b c d), .bool (itB a b c d)]) ∧ Grown w w' := by
  by_cases hh : okV a b = true ∧ okV c d = true
  · obtain ⟨h, k⟩ := hh
    obtain ⟨_, j1, _⟩ := (okV_iff a b).1 h
    obtain ⟨_, l1, _⟩ := (okV_iff c d).1 k
    by_cases hp : a < c <;> by_cases hq : d < b
    · have ex : mxF a c = c := if_pos hp
      have en : mnF b d = d := if_pos hq
      obtain ⟨e1, e2, e3⟩ := it_yes h k (by rw [ex, en]; exact l1)
      rw [e1, e2, e3, ex, en]; exact ris0y a b c d w h k hp hq
    · have ex : mxF a c = c := if_pos hp
      have en : mnF b d = b := if_neg hq
      by_cases ht : c < b
      · obtain ⟨e1, e2, e3⟩ := it_yes h k (by rw [ex, en]; exact ht)
        rw [e1, e2, e3, ex, en]; exact ris1y a b c d w h k hp (by omega) ht
      · have e1 : itB a b c d = false := by simp [itB, ex, en]; intros; omega
        rw [e1, (it_no e1).1, (it_no e1).2]; exact ris1n a b c d w h k hp (by omega) (by omega)
    · have ex : mxF a c = a := if_neg hp
      have en : mnF b d = d := if_pos hq
      by_cases ht : a < d
      · obtain ⟨e1, e2, e3⟩ := it_yes h k (by rw [ex, en]; exact ht)
        rw [e1, e2, e3, ex, en]; exact ris2y a b c d w h k (by omega) hq ht
      · have e1 : itB a b c d = false := by simp [itB, ex, en]; intros; omega
        rw [e1, (it_no e1).1, (it_no e1).2]; exact ris2n a b c d w h k (by omega) hq (by omega)
    · have ex : mxF a c = a := if_neg hp
      have en : mnF b d = b := if_neg hq
      obtain ⟨e1, e2, e3⟩ := it_yes h k (by rw [ex, en]; exact j1)
      rw [e1, e2, e3, ex, en]; exact ris3y a b c d w h k (by omega) (by omega)
  · have hb : okV a b = false ∨ okV c d = false := by
      cases h1 : okV a b
      · exact Or.inl rfl
      · cases h2 : okV c d
        · exact Or.inr rfl
        · exact absurd ⟨h1, h2⟩ hh
    have e1 : itB a b c d = false := by rcases hb with h | h <;> simp [itB, h]
    rw [e1, (it_no e1).1, (it_no e1).2]; exact ris_bad a b c d w hb
end Go.Proofs.Ytckknhocmbhmhaa
