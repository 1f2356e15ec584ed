/- Check, of the program. -/
import Derived.Test.YtdamlnfjhpmpmaaEw3
import Derived.Test.YtdamlnfjhpmpmaaEx2
namespace Go.Proofs.Ytdamlnfjhpmpmaa
open Go.ChangeShapes Go.WideShapes Go.ChangeAt Go.RowKit

/-- a list that is filled up -/
def fil {α : Type} (a : List α) (n : Nat) (z : α) : List α := a ++ List.replicate (n - a.length) z
theorem fil_len {α : Type} (a : List α) (n : Nat) (z : α) (h : a.length ≤ n) : (fil a n z).length = n := by simp [fil]; omega
theorem fil_nil {α : Type} (n : Nat) (z : α) : fil [] n z = List.replicate n z := by simp [fil]
theorem fil_full {α : Type} (a : List α) (n : Nat) (z : α) (h : a.length = n) : fil a n z = a := by subst h; simp [fil]
theorem fil_take {α : Type} (a : List α) (n k : Nat) (z : α) (h : a.length = k) : (fil a n z).take k = a := by subst h; simp [fil]
theorem fil_set {α : Type} (a : List α) (n k : Nat) (z x : α) (hk : a.length = k) (h : k < n) : (fil a n z).set k x = fil (a ++ [x]) n z := by
  subst hk
  unfold fil
  obtain ⟨m, hm⟩ : ∃ m, n - a.length = m + 1 := ⟨n - a.length - 1, by omega⟩
  rw [hm, List.set_append_right _ _ (Nat.le_refl _), Nat.sub_self, List.replicate_succ, List.set_cons_zero, List.append_assoc, List.length_append, show n - (a.length + [x].length) = m by simp; omega]
  rfl
theorem ret_k2 {a b : Int} {p : Int × Int} (h : p = (a, b)) : Ending.returned (.tuple #[.int .i64 a, .int .i64 b]) = .returned (.tuple #[.int .i64 p.1, .int .i64 p.2]) := by rw [h]
/-- what Check returns -/
def chkV (l : List X) (root : Int) (cols : List Int) : Int × Int := if 200 < l.length then (0, 4) else if isIx root l.length = false then (0, 10) else atK (chs cols l) root
theorem Arr.put2 {e : TypeId} {W w : World} {g : Nat} {l : List (Int × Int)} (h : Arr e W w g l) (i : Nat) (p q : Int) (hi : i < l.length) : Arr e W ((w.setCell ⟨g, i * 2, none⟩ (.int .i64 p)).setCell ⟨g, i * 2 + 1, none⟩ (.int .i64 q)) g (l.set i (p, q)) := (h.put i (p, q) hi).1
theorem Arr.rdTake {α : Type} [Enc α] {e : TypeId} {W w : World} {g n k : Nat} {a : List α} {z : α} (h : Arr e W w g (fil a n z)) (hk : a.length = k) (hn : k ≤ n) : RdG w (.slice (some ⟨g, 0, none⟩) k n) a := by
  have h1 := h.rd.take k (by rw [fil_len _ _ _ (by omega)]; exact hn)
  rw [fil_take a n k z hk] at h1
  rw [fil_len _ _ _ (by omega)] at h1
  exact h1
theorem fil_at {α : Type} (a : List α) (n k : Nat) (z : α) (hk : a.length = k) (h : k < n) (h' : k < (fil a n z).length) : (fil a n z)[k] = z := by
  subst hk; simp [fil]
theorem Arr.z2 {e : TypeId} {W w : World} {g n k : Nat} {a : List (Int × Int)} (h : Arr e W w g (fil a n (0, 0))) (hk : a.length = k) (hn : k < n) : w.cell? ⟨g, k * 2, none⟩ = some (.int .i64 0) ∧ w.cell? ⟨g, k * 2 + 1, none⟩ = some (.int .i64 0) := by
  have hl : k < (fil a n ((0 : Int), (0 : Int))).length := by rw [fil_len _ _ _ (by omega)]; exact hn
  have e := fil_at a n k (0, 0) hk hn hl
  exact ⟨h.cell k 0 _ hl (by rw [e]; rfl), h.cell k 1 _ hl (by rw [e]; rfl)⟩
def CkR (w : World) (l : List X) (cols : List Int) (r : Nat) (i : Value) (wr : World) : Prop := ∃ k : Nat, k ≤ r + 1 ∧ i = .int .i64 k ∧ Arr tK.e w wr w.heap.size (fil (chs cols (l.take k)) (r + 1) (0, 0))
theorem chs_tlen (cols : List Int) (l : List X) (k : Nat) (h : k ≤ l.length) : (chs cols (l.take k)).length = k := by rw [chs_len, List.length_take]; omega
set_option maxHeartbeats 4000000 in
set_option maxRecDepth 100000 in
theorem check_prg (l : List X) (root : Int) (cols : List Int) (vl vc : Value) (w : World) (hl : RdG w vl l) (hc : RdG w vc cols) :
    Calls Try.prog 13 #[vl, .int .i64 root, vc] w fun e w' => e = .returned (.tuple #[.int .i64 (chkV l root cols).1, .int .i64 (chkV l root cols).2]) ∧ Ext w w' := by
  obtain ⟨al, cl, rfl, ll1, ll2⟩ := hl.shape
  obtain ⟨ac, cc, rfl, lc1, lc2⟩ := hc.shape
  have HL := Lib.hid hl
  have HC := Lib.hid hc
  clear hl hc
  unfold maxLen at ll2 lc2
  have hI := isx_prg root l.length
  by_cases hlen : 200 < l.length
  · have H := Lib.hid (show chkV l root cols = (0, 4) by unfold chkV; rw [if_pos hlen])
    have hlen' : (200 : Int) < (l.length : Int) := by omega
    clear hI
    go_enter Try.func13, Try.ntmps13
    go_wp2_with fail
    go_ret2
    exact ⟨ret_k2 H.out, Ext.refl _⟩
  have hlen' : ¬ (200 : Int) < (l.length : Int) := by omega
  cases hb : isIx root l.length with
  | false =>
    have H := Lib.hid (show chkV l root cols = (0, 10) by unfold chkV; rw [if_neg hlen, if_pos hb])
    rw [hb] at hI
    have HI := Lib.hid hI
    clear hI hb
    go_enter Try.func13, Try.ntmps13
    go_wp2_with fail
    refine (HI.out _).mono ?_; rintro e w1 ⟨rfl, rfl⟩
    go_wp2_with fail
    go_ret2
    exact ⟨ret_k2 H.out, Ext.refl _⟩
  | true =>
    have hx := (isIx_iff _ _).1 hb
    obtain ⟨r, rfl⟩ := nat_of hx.1
    have hr : r < l.length := by omega
    have H := Lib.hid (show chkV l r cols = (chs cols (l.take (r + 1))).getD r (0, 0) by unfold chkV; rw [if_neg hlen, if_neg (by rw [hb]; decide), chs_take cols l (r + 1) r (by omega) (by omega)]; rfl)
    rw [hb] at hI
    have HI := Lib.hid hI
    clear hI hb hx
    obtain ⟨n, hn⟩ : ∃ n, n = l.length := ⟨_, rfl⟩
    obtain ⟨m, hm⟩ : ∃ m, m = cols.length := ⟨_, rfl⟩
    have HN := Lib.hid hn
    have HM := Lib.hid hm
    rw [← hn] at HL HI ll1 hlen hlen' hr ⊢
    rw [← hm] at HC lc1 ⊢
    clear hn hm
    have e1 : (0 : Int) ≤ (r : Int) + 1 := by omega
    have e2 : (r : Int) + 1 ≤ (cl : Int) := by omega
    go_enter Try.func13, Try.ntmps13
    go_wp2_with fail
    refine (HI.out _).mono ?_; rintro e w1 ⟨rfl, rfl⟩
    go_wp2_with (at_make; refine makeG tK rfl _ _ rfl w (Ext.refl _) ((r : Int) + 1) ((r : Int) + 1) (r + 1) rfl rfl (by omega) (by omega) (by omega) ?_; intro w1 hA hE1)
    have hB : w.heap.size < w1.heap.size := hA.lo.2
    go_loopw [27] (CkR w l cols r) (fun i _ => r + 1 - (intOf i).toNat)
    case atStart => exact ⟨0, by omega, rfl, by rw [List.take_zero]; show Arr tK.e w w1 w.heap.size (fil [] (r + 1) (0, 0)); rw [fil_nil]; exact hA⟩
    case round =>
      obtain ⟨k, hk, rfl, hAr⟩ := hrel
      have hrn : r < l.length := by rw [← HN.out]; exact hr
      by_cases hlt : k < r + 1
      · have hkl : k < l.length := by omega
        have hi1 : (k : Int) < (r : Int) + 1 := by omega
        have hi0 : (0 : Int) ≤ (k : Int) := by omega
        have hi2 : (k : Int) ≤ (r : Int) + 1 := by omega
        have hi3 : (k : Int) ≤ ((r + 1 : Nat) : Int) := by omega
        have hi4 : (k : Int) < ((r + 1 : Nat) : Int) := by omega
        obtain ⟨g, o, rfl, c0, c1, c2, c3, c4, c5, c6⟩ := rd_X HL.out k hkl
        have hgl : g < w.heap.size := World.block_lt_of_cell? _ _ c0
        have hS := Lib.hid (chs_succ cols l k hkl)
        have hpl := chs_tlen cols l k (by omega)
        have hP := hAr.rdTake hpl (by omega)
        have hCl := Lib.hid (chs_clean cols (l.take k))
        have hO := Lib.hid (one_prg l[k] (chs cols (l.take k)) cols)
        generalize hpr : chO l[k] (chs cols (l.take k)) cols = pq at *
        obtain ⟨p, q⟩ := pq
        have HPR := Lib.hid hpr
        clear hpr
        generalize l[k] = x at *
        obtain ⟨xop, xa, xb, xc, ⟨xk, xn, xs⟩⟩ := x
        simp only at c0 c1 c2 c3 c4 c5 c6
        have C0 := hAr.2.keeps c0
        have C1 := hAr.2.keeps c1
        have C2 := hAr.2.keeps c2
        have C3 := hAr.2.keeps c3
        have C4 := hAr.2.keeps c4
        have C5 := hAr.2.keeps c5
        have C6 := hAr.2.keeps c6
        clear c0 c1 c2 c3 c4 c5 c6
        go_wp2_with fail
        have hE0 : Ext wr (wr.alloc (.cells #[.int .i64 xop, .int .i64 xa, .int .i64 xb, .int .i64 xc, .int .i64 xk, .int .i64 xn, sv xs] 44)) := (Ext.refl _).alloc _ _
        have b0 := al_c wr #[.int .i64 xop, .int .i64 xa, .int .i64 xb, .int .i64 xc, .int .i64 xk, .int .i64 xn, sv xs] 44 0 (.int .i64 xop) rfl
        have b1 := al_c wr #[.int .i64 xop, .int .i64 xa, .int .i64 xb, .int .i64 xc, .int .i64 xk, .int .i64 xn, sv xs] 44 1 (.int .i64 xa) rfl
        have b2 := al_c wr #[.int .i64 xop, .int .i64 xa, .int .i64 xb, .int .i64 xc, .int .i64 xk, .int .i64 xn, sv xs] 44 2 (.int .i64 xb) rfl
        have b3 := al_c wr #[.int .i64 xop, .int .i64 xa, .int .i64 xb, .int .i64 xc, .int .i64 xk, .int .i64 xn, sv xs] 44 3 (.int .i64 xc) rfl
        have b4 := al_c wr #[.int .i64 xop, .int .i64 xa, .int .i64 xb, .int .i64 xc, .int .i64 xk, .int .i64 xn, sv xs] 44 4 (.int .i64 xk) rfl
        have b5 := al_c wr #[.int .i64 xop, .int .i64 xa, .int .i64 xb, .int .i64 xc, .int .i64 xk, .int .i64 xn, sv xs] 44 5 (.int .i64 xn) rfl
        have b6 := al_c wr #[.int .i64 xop, .int .i64 xa, .int .i64 xb, .int .i64 xc, .int .i64 xk, .int .i64 xn, sv xs] 44 6 (sv xs) rfl
        generalize wr.alloc (.cells #[.int .i64 xop, .int .i64 xa, .int .i64 xb, .int .i64 xc, .int .i64 xk, .int .i64 xn, sv xs] 44) = W0 at hE0 b0 b1 b2 b3 b4 b5 b6 ⊢
        have B0 := Lib.hid b0
        have B1 := Lib.hid b1
        have B2 := Lib.hid b2
        have B3 := Lib.hid b3
        have B4 := Lib.hid b4
        have B5 := Lib.hid b5
        have B6 := Lib.hid b6
        have n0 : w.heap.size ≠ wr.heap.size := by have := hAr.lo.2; omega
        have hA0 := hAr.ext hE0
        have hP0 := hP.ext hE0
        have hC0 := HC.out.ext hA0.2
        have hbl : wr.heap.size < W0.heap.size := World.block_lt_of_cell? _ _ b0
        have hHA := Lib.hid hA0
        have HP0 := Lib.hid hP0
        have HC0 := Lib.hid hC0
        have hHE := Lib.hid hE0
        clear hP hP0 hC0 hE0 b0 b1 b2 b3 b4 b5 b6 hA0 C0 C1 C2 C3 C4 C5 C6
        go_region_held3 (fun w' => w'.cell? ⟨wr.heap.size, 0, none⟩ = some (.int .i64 xop) ∧ w'.cell? ⟨wr.heap.size, 1, none⟩ = some (.int .i64 xa) ∧ w'.cell? ⟨wr.heap.size, 2, none⟩ = some (.int .i64 xb) ∧ w'.cell? ⟨wr.heap.size, 3, none⟩ = some (.int .i64 xc) ∧ w'.cell? ⟨wr.heap.size, 4, none⟩ = some (.int .i64 xk) ∧ w'.cell? ⟨wr.heap.size, 5, none⟩ = some (.int .i64 xn) ∧ w'.cell? ⟨wr.heap.size, 6, none⟩ = some (sv xs)) (first | exact ⟨B0.out, B1.out, B2.out, B3.out, B4.out, B5.out, B6.out⟩ | exact ⟨f0, f1, f2, f3, f4, f5, f6⟩ | exact ⟨set2far n0 f0, set2far n0 f1, set2far n0 f2, set2far n0 f3, set2far n0 f4, set2far n0 f5, set2far n0 f6⟩ | go_keep)
          (first | (go_at_call 22; refine (heldE W0 (hO.out _ _ _ (HP0.out.ext ?_) (HC0.out.ext ?_) hCl.out) ?_).mono ?_; (first | assumption | exact Ext.refl _ | exact (Ext.refl _).drew); (first | assumption | exact Ext.refl _ | exact (Ext.refl _).drew); (first | assumption | exact Ext.refl _ | exact (Ext.refl _).drew); rintro e w3 ⟨rfl, -, qG⟩; have f0 := qG.keeps B0.out; have f1 := qG.keeps B1.out; have f2 := qG.keeps B2.out; have f3 := qG.keeps B3.out; have f4 := qG.keeps B4.out; have f5 := qG.keeps B5.out; have f6 := qG.keeps B6.out; have hA3 := hHA.out.ext qG; obtain ⟨z0, z1⟩ := hA3.z2 hpl hlt; have y0 := hA3.frozen (k * 2); have y1 := hA3.frozen (k * 2 + 1); have hs3 := hA3.lo.2))
        have hA4 := hA3.put2 k p q (by rw [fil_len _ _ _ (by omega)]; omega)
        rw [fil_set _ _ _ _ _ hpl hlt, ← hS.out] at hA4
        go_wp2_with fail
        go_roundw
        case rel => exact ⟨k + 1, by omega, by go_num, hA4⟩
        case measure => simp [intOf]; omega
      · have hke : k = r + 1 := by omega
        subst hke
        have hpl := chs_tlen cols l (r + 1) (by omega)
        rw [fil_full _ _ _ hpl] at hAr
        have hrl : r < (chs cols (l.take (r + 1))).length := by rw [hpl]; omega
        have c0 := hAr.cell r 0 _ hrl rfl
        have c1 := hAr.cell r 1 _ hrl rfl
        have H2 := Lib.hid (H.out.trans (getD_at _ _ r hrl))
        generalize (chs cols (l.take (r + 1)))[r] = pq at *
        obtain ⟨p, q⟩ := pq
        have D0 : wr.cell? ⟨w.heap.size, r * 2, none⟩ = some (.int .i64 p) := c0
        have D1 : wr.cell? ⟨w.heap.size, r * 2 + 1, none⟩ = some (.int .i64 q) := c1
        have hE := hAr.2
        have hi0 : (0 : Int) ≤ (r : Int) := by omega
        have hi1 : (r : Int) < (r : Int) + 1 := by omega
        have hi4 : (r : Int) < ((r + 1 : Nat) : Int) := by omega
        have hend : decide (((r + 1 : Nat) : Int) < (r : Int) + 1) = false := by simp
        clear c0 c1
        go_wp2_with fail
        go_quiet (fail)
        go_wp2_with fail
        go_ret2
        exact ⟨ret_k2 H2.out, hE⟩
end Go.Proofs.Ytdamlnfjhpmpmaa
