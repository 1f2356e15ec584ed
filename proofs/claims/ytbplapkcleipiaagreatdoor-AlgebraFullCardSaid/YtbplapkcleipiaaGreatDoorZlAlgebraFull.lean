/- The law AlgebraFull. -/
import Derived.Test.YtbplapkcleipiaaGreatDoorZz43
namespace Go.Proofs.YtbplapkcleipiaaGreatDoor
open Go.ChangeShapes Go.WideShapes Go.ChangeAt Go.RowKit

/- plain -/
def fnd (i : Nat) : Nd := ⟨4, (i : Int), 0, 0, [], [], []⟩
def fq (k : Nat) : List Nd := ⟨1, 0, 0, 0, [84], [], []⟩ :: (List.range k).map fnd
def frow : R := ⟨[nul], [1]⟩
def fdb (m : Nat) : List Tb := [⟨⟨[84], [0]⟩, List.replicate m frow⟩]
def fcols (k : Nat) : List (List Int) := (List.range (k + 1)).map fun i => List.replicate (i + 1) 0
def fullB (m : Nat) : Nat → Bool
  | 0 => false
  | k + 1 => fullB m k || decide (4096 < m ^ (k + 2))
theorem fq_succ (k : Nat) : fq (k + 1) = fq k ++ [fnd k] := by simp [fq, List.range_succ]
theorem f_col (k m : Nat) (h : k ≤ 4) : colQ ax2 ((fdb m).map Tb.t) (fq k) = (fcols k, 0) := by
  show colQ ax2 [⟨[84], [0]⟩] (fq k) = _
  rcases (show k = 0 ∨ k = 1 ∨ k = 2 ∨ k = 3 ∨ k = 4 by omega) with rfl | rfl | rfl | rfl | rfl <;> decide
theorem f_hld (v : List V) : hldB ax2 0 v = true := rfl
theorem f_jn (w : Nat) (a b : List R) : (jnL ax2 0 false w a b).length = a.length * b.length := by
  have h1 : ∀ r, oneJ ax2 0 false w b r = parL ax2 0 r b := fun r => by unfold oneJ; rw [if_neg (by simp)]
  have h2 : ∀ r, (parL ax2 0 r b).length = b.length := fun r => by
    unfold parL
    rw [List.length_map, List.filter_eq_self.2 (fun o _ => f_hld _)]
  unfold jnL
  induction a with
  | nil => simp
  | cons r a ih => rw [List.flatMap_cons, List.length_append, ih, h1, h2, List.length_cons, Nat.add_mul]; omega
theorem f_evN (db : List Tb) (cols : List (List Int)) (i : Nat) (done : List (List R)) : (evN clsF ax2 db cols (fnd i) done).length = (atL done i).length * (atL done 0).length := by
  show (jnL ax2 0 false (atC cols 0).length (atL done i) (atL done 0)).length = _
  exact f_jn _ _ _
theorem full_mono (m i : Nat) : ∀ k, i ≤ k → fullB m i = true → fullB m k = true := fun k hk h => by
  induction k with
  | zero => obtain rfl : i = 0 := by omega
            exact h
  | succ k ih =>
    by_cases e : i = k + 1
    · subst e; exact h
    · unfold fullB; rw [ih (by omega)]; rfl
theorem f_evs (db : List Tb) (cols : List (List Int)) (m k : Nat) : ∀ (j i : Nat) (done : List (List R)), i + j = k → done.length = i + 1 → (∀ t ≤ i, (atL done (t : Int)).length = m ^ (t + 1)) → fullB m i = false →
    let c := evsQ clsF ax2 db cols (((List.range k).map fnd).drop i) done
    (fullB m k = true → c = ([], 12)) ∧ (fullB m k = false → c.2 = 0 ∧ c.1.length = k + 1 ∧ (atL c.1 (k : Int)).length = m ^ (k + 1))
  | 0, i, done, hk, hl, ha, hf => by
    obtain rfl : i = k := by omega
    rw [List.drop_of_length_le (by simp)]
    exact ⟨fun h => (by rw [hf] at h; cases h), fun _ => ⟨rfl, hl, ha i (Nat.le_refl _)⟩⟩
  | j + 1, i, done, hk, hl, ha, hf => by
    have hlt : i < ((List.range k).map fnd).length := by simp; omega
    rw [List.drop_eq_getElem_cons hlt]
    have hg : ((List.range k).map fnd)[i] = fnd i := by simp
    rw [hg, evsQ_step]
    have hlen := f_evN db cols i done
    have h0 := ha 0 (Nat.zero_le _)
    have hi := ha i (Nat.le_refl _)
    simp only [Int.natCast_zero, Nat.zero_add, Nat.pow_one] at h0
    rw [hi, h0, ← Nat.pow_succ] at hlen
    by_cases hb : 4096 < m ^ (i + 1 + 1)
    · rw [if_pos (by rw [hlen]; exact hb)]
      have hfi : fullB m (i + 1) = true := by unfold fullB; simp [hb]
      have hfk := full_mono m (i + 1) k (by omega) hfi
      exact ⟨fun _ => rfl, fun h => by rw [hfk] at h; cases h⟩
    · rw [if_neg (by rw [hlen]; exact hb)]
      refine f_evs db cols m k j (i + 1) _ (by omega) (by rw [List.length_append, hl]; rfl) (fun t ht => ?_) (by unfold fullB; simp [hf, hb])
      rw [atL_snoc]
      by_cases e : t = i + 1
      · subst e; rw [if_pos (by rw [hl]; rfl), hlen]
      · rw [if_neg (by rw [hl]; show ¬ t = i + 1; exact e)]; exact ha t (by omega)
theorem f_ev (m k : Nat) (hk : k ≤ 4) (hm : m ≤ 9) : (fullB m k = true → evQ clsF ax2 (fdb m) (fq k) = ([], 12)) ∧ (fullB m k = false → ∃ L : List R, evQ clsF ax2 (fdb m) (fq k) = (sortR L, 0) ∧ L.length = m ^ (k + 1)) := by
  have hh := f_evs (fdb m) (fcols k) m k k 0 [List.replicate m frow] (by omega) rfl (fun t ht => by
    obtain rfl : t = 0 := by omega
    simp [atL]) rfl
  rw [List.drop_zero] at hh
  have e : evsQ clsF ax2 (fdb m) (fcols k) (fq k) [] = evsQ clsF ax2 (fdb m) (fcols k) ((List.range k).map fnd) [List.replicate m frow] := by
    show evsQ clsF ax2 (fdb m) (fcols k) (_ :: _) [] = _
    rw [evsQ_step]
    have e1 : evN clsF ax2 (fdb m) (fcols k) ⟨1, 0, 0, 0, [84], [], []⟩ [] = List.replicate m frow := rfl
    rw [e1, if_neg (by rw [List.length_replicate]; omega)]; rfl
  unfold evQ
  simp only [f_col k m hk, e]
  rw [if_neg (by simp)]
  simp only at hh
  obtain ⟨h1, h2⟩ := hh
  refine ⟨fun hf => by rw [h1 hf]; rfl, fun hf => ?_⟩
  obtain ⟨a, b, c⟩ := h2 hf
  refine ⟨_, by rw [if_neg (by rw [a]; simp)], ?_⟩
  rw [last_atL, b]
  exact c
theorem fq_nil (k : Nat) : ∀ n ∈ fq k, n.ex = [] ∧ n.ag = [] := fun n hn => by
  unfold fq at hn
  rcases List.mem_cons.1 hn with rfl | hn
  · exact ⟨rfl, rfl⟩
  · obtain ⟨i, _, rfl⟩ := List.mem_map.1 hn; exact ⟨rfl, rfl⟩
theorem ax2_good : GoodX 10 ax2 := fun x hx => by
  simp only [ax2, List.mem_cons, List.not_mem_nil, or_false] at hx; subst hx
  exact ⟨okN_small (by decide) (by decide), okN_small (by decide) (by decide), by simp⟩
theorem frow_ok (m : Nat) : RowsB 10 [1] 6 (List.replicate m frow) := fun r hr => by
  obtain rfl := List.eq_of_mem_replicate hr
  refine ⟨by simp [frow], fun v hv => ?_, .inl (by simp [frow]), fun z hz => hz⟩
  simp only [frow, List.mem_cons, List.not_mem_nil, or_false] at hv
  subst hv; exact good_nul 10
theorem f_mul (m j s2 : Nat) (h : s2 = m ^ (j + 1 + 1)) : ((m ^ (j + 1) : Nat) : Int) * (m : Int) = (s2 : Int) := by
  rw [h, Nat.pow_succ m (j + 1)]; exact (Int.natCast_mul _ _).symm
theorem f_wrap (s : Nat) (h : s ≤ 59049) : IntKind.i64.wrap (s : Int) = (s : Int) ∧ wrap64 (s : Int) = (s : Int) := by
  refine ⟨?_, by unfold wrap64; omega⟩
  simp only [IntKind.wrap, IntKind.bits, IntKind.signed]; simp; omega
theorem f_three (b : Bool) (s : Nat) : b = true ∨ (b = false ∧ 4096 < s) ∨ (b = false ∧ ¬ 4096 < s) := by cases b <;> simp; omega
theorem f_lt (s : Nat) (h : 4096 < s) : (4096 : Int) < (s : Int) := by omega
theorem f_nlt (s : Nat) (h : ¬ 4096 < s) : ¬ (4096 : Int) < (s : Int) := by omega
theorem f_pow (m i : Nat) (hm : m ≤ 9) (hi : i ≤ 5) : m ^ i ≤ 59049 := Nat.le_trans (Nat.pow_le_pow_left hm i) (Nat.le_trans (Nat.pow_le_pow_right (by omega) hi) (by decide))
theorem ev_full {w w' : World} {c : List R × Int} {e : Ending} (h : EvP w c e w') (hc : c = ([], 12)) : ∃ ad cp, e = .returned (.tuple #[.slice ad 0 cp, .int .i64 12]) ∧ Ext w w' := by
  subst hc
  obtain ⟨v, qs, rfl, h1, _, h3, h4⟩ := h
  obtain rfl : qs = [] := by cases qs with
    | nil => rfl
    | cons x l => cases h3
  obtain ⟨ad, cp, rfl, _, _⟩ := h1.shape
  exact ⟨ad, cp, rfl, h4⟩
theorem ev_rows {w w' : World} {c : List R × Int} {e : Ending} {L : List R} (h : EvP w c e w') (hc : c = (L, 0)) : ∃ ad cp, e = .returned (.tuple #[.slice ad L.length cp, .int .i64 0]) ∧ Ext w w' := by
  subst hc
  obtain ⟨v, qs, rfl, h1, _, h3, h4⟩ := h
  obtain ⟨ad, cp, rfl, _, _⟩ := h1.shape
  have e : L.length = qs.length := by rw [← rows_len qs, h3]
  exact ⟨ad, cp, by rw [e], h4⟩
/- the walk -/
def FxR (w : World) (m : Nat) (v i : Value) (wr : World) : Prop := ∃ k : Nat, k ≤ m ∧ i = .int .i64 k ∧ OwnQ UU w wr v (List.replicate k frow)
def FqR (W : World) (m k : Nat) (s f i : Value) (wr : World) : Prop :=
  ∃ (j : Nat) (vn : Value) (ps : List NdP), j ≤ k ∧ i = .int .i64 j ∧ s = .int .i64 ((m ^ (j + 1) : Nat) : Int) ∧ f = .bool (fullB m j) ∧ OwnG tNd.e W wr vn ps ∧ ps.map NdP.n = fq j ∧ (∀ p ∈ ps, p.h = ⟨none, 0, 0, none, 0, 0⟩) ∧ (∀ g, vn.ownBlock = some g → g ≠ W.heap.size + 1 ∧ g ≠ W.heap.size + 1 + 1) ∧
    Bxn (W.heap.size + 1 + 1) [vn, .slice (some ⟨W.heap.size + 1, 0, none⟩) 1 1] wr ∧ RdG wr (.slice (some ⟨W.heap.size + 1, 0, none⟩) 1 1) ax2
set_option maxHeartbeats 8000000 in
set_option maxRecDepth 100000 in
theorem law_AlgebraFull (n r : Int) (w : World) (hG : PT w) (n0 : 0 ≤ n) (_n1 : n ≤ 255) (r0 : 0 ≤ r) (_r1 : r ≤ 255) : Calls Tryz.prog 9 #[.int .u8 n, .int .u8 r] w fun e w' => e = .returned (.bool true) ∧ Ext w w' := by
  obtain ⟨k, hk⟩ : ∃ k : Nat, (k : Int) = n % 5 := ⟨(n % 5).toNat, by omega⟩
  obtain ⟨m, hm⟩ : ∃ m : Nat, (m : Int) = r % 10 := ⟨(r % 10).toNat, by omega⟩
  have hk4 : k ≤ 4 := by omega
  have hm9 : m ≤ 9 := by omega
  have hk1 : Int.tmod n 5 = (k : Int) := by rw [Int.tmod_eq_emod_of_nonneg n0]; exact hk.symm
  have hm1 : Int.tmod r 10 = (m : Int) := by rw [Int.tmod_eq_emod_of_nonneg r0]; exact hm.symm
  have hk2 := hk.symm
  have hm2 := hm.symm
  have hwk : IntKind.u8.wrap (k : Int) = (k : Int) := by simp only [IntKind.wrap, IntKind.bits, IntKind.signed]; simp; omega
  have hwm : IntKind.u8.wrap (m : Int) = (m : Int) := by simp only [IntKind.wrap, IntKind.bits, IntKind.signed]; simp; omega
  have hwk2 : IntKind.i64.wrap (k : Int) = (k : Int) := by simp only [IntKind.wrap, IntKind.bits, IntKind.signed]; simp; omega
  have hwm2 : IntKind.i64.wrap (m : Int) = (m : Int) := by simp only [IntKind.wrap, IntKind.bits, IntKind.signed]; simp; omega
  clear hk hm
  go_enter Tryz.func9, Tryz.ntmps9
  go_wp2_with fail
  go_loopw [7, 8] (FxR w m) (fun _ i _ => m - (intOf i).toNat)
  case atStart => exact ⟨0, Nat.zero_le _, rfl, OwnQ.nil UU (Ext.refl _)⟩
  case round =>
    obtain ⟨i, hi, rfl, hO⟩ := hrel
    by_cases hlt : i < m
    · obtain ⟨ps, o1, o2, o3⟩ := hO
      have HQ1 := Lib.hid o1
      have HQ2 := Lib.hid o2
      have HQ3 := Lib.hid o3
      have HQL := Lib.hid (show ps.length ≤ 9 by have e := rows_len ps; rw [o3, List.length_replicate] at e; omega)
      have EX := Lib.hid (show Ext wr (((wr.alloc (.cells #[.int .i64 0, .int .i64 0, sv []] 58)).alloc (.cells #[.int .i64 1] 3)).alloc (.cells #[.slice (some ⟨wr.heap.size, 0, none⟩) 1 1, .slice (some ⟨wr.heap.size + 1, 0, none⟩) 1 1] 51)) from (((Ext.refl wr).alloc _ _).alloc _ _).alloc _ _)
      have ha := (own_litB tV.e (Ext.refl wr) ([nul] : List V) #[.int .i64 0, .int .i64 0, sv []] wr.heap.size 1 rfl rfl (by simp) rfl).ext (((Ext.refl _).alloc #[.int .i64 1] 3).alloc #[.slice (some ⟨wr.heap.size, 0, none⟩) 1 1, .slice (some ⟨wr.heap.size + 1, 0, none⟩) 1 1] 51)
      have hb := (own_litB tI.e (Ext.refl (wr.alloc (.cells #[.int .i64 0, .int .i64 0, sv []] 58))) ([1] : List Int) #[.int .i64 1] (wr.heap.size + 1) 1 (by simp) rfl (by simp) rfl).ext ((Ext.refl _).alloc #[.slice (some ⟨wr.heap.size, 0, none⟩) 1 1, .slice (some ⟨wr.heap.size + 1, 0, none⟩) 1 1] 51)
      have HF := Lib.hid (show Fine UU w (((wr.alloc (.cells #[.int .i64 0, .int .i64 0, sv []] 58)).alloc (.cells #[.int .i64 1] 3)).alloc (.cells #[.slice (some ⟨wr.heap.size, 0, none⟩) 1 1, .slice (some ⟨wr.heap.size + 1, 0, none⟩) 1 1] 51)) (⟨⟨some ⟨wr.heap.size, 0, none⟩, 1, 1, some ⟨wr.heap.size + 1, 0, none⟩, 1, 1⟩, frow⟩ : P) from ⟨⟨⟨ha.rd, hb.rd⟩, ha.off (by decide), hb.off (by decide)⟩, in_UU _, in_UU _⟩)
      have HRD := Lib.hid (rd_litG ((wr.alloc (.cells #[.int .i64 0, .int .i64 0, sv []] 58)).alloc (.cells #[.int .i64 1] 3)) ([⟨⟨some ⟨wr.heap.size, 0, none⟩, 1, 1, some ⟨wr.heap.size + 1, 0, none⟩, 1, 1⟩, frow⟩] : List P) #[.slice (some ⟨wr.heap.size, 0, none⟩) 1 1, .slice (some ⟨wr.heap.size + 1, 0, none⟩) 1 1] 51 (wr.heap.size + 1 + 1) 1 (by simp) rfl (by simp) rfl)
      clear o1 o2 o3 ha hb
      go_wp2_with (at_builtin; refine appG tP rfl _ _ rfl w _ ps rfl (HQ1.out.ext EX.out) _ [⟨⟨some ⟨wr.heap.size, 0, none⟩, 1, 1, some ⟨wr.heap.size + 1, 0, none⟩, 1, 1⟩, frow⟩] rfl HRD.out (by have := HQL.out; simp; omega) ?_; intro v' w' hO' hg')
      go_roundw
      case rel =>
        refine ⟨i + 1, hlt, by go_num, ?_⟩
        rw [List.replicate_succ']
        exact OwnQ.app (qs := [⟨⟨some ⟨wr.heap.size, 0, none⟩, 1, 1, some ⟨wr.heap.size + 1, 0, none⟩, 1, 1⟩, frow⟩]) (HQ1.out.ext EX.out) (fun p hp => (HQ2.out p hp).ext EX.out) HQ3.out (fun p hp => by simp only [List.mem_singleton] at hp; subst hp; exact HF.out) hO' hg'
      case measure => simp [intOf]; omega
    · obtain rfl : i = m := by omega
      have hEw := Lib.hid hO.old
      obtain ⟨xs, x1, x2, x3⟩ := hO
      have HXR := Lib.hid (show RdR UU wr _ (List.replicate i frow) from ⟨xs, x1.rd, in_UU _, fun p hp => ⟨(x2 p hp).1.1, in_UU _, in_UU _⟩, x3⟩)
      obtain ⟨xa, xc, rfl, _, _⟩ := x1.rd.shape
      clear x1 x2 x3
      obtain ⟨W, rfl⟩ : ∃ x, x = wr := ⟨_, rfl⟩
      obtain ⟨W1, hW⟩ : ∃ W1, W1 = ((W.alloc (.cells #[.int .i64 1, .int .i64 0, .int .i64 0, .int .i64 0, sv [84], .slice none 0 0, .slice none 0 0] 45)).alloc (.cells #[.int .i64 1, .int .i64 0, .int .i64 0, .int .i64 0, .int .i64 3, .int .i64 1, sv []] 64)).alloc (.cells #[.slice (some ⟨W.heap.size, 0, none⟩) 1 1, .slice (some ⟨W.heap.size + 1, 0, none⟩) 1 1] 26) := ⟨_, rfl⟩
      have EX1 := Lib.hid (show Ext W W1 by rw [hW]; exact (((Ext.refl W).alloc _ _).alloc _ _).alloc _ _)
      have HO0 := Lib.hid (show OwnG tNd.e W W1 (.slice (some ⟨W.heap.size, 0, none⟩) 1 1) ([⟨⟨none, 0, 0, none, 0, 0⟩, ⟨1, 0, 0, 0, [84], [], []⟩⟩] : List NdP) by rw [hW]; exact (own_litB tNd.e (Ext.refl W) ([⟨⟨none, 0, 0, none, 0, 0⟩, ⟨1, 0, 0, 0, [84], [], []⟩⟩] : List NdP) #[.int .i64 1, .int .i64 0, .int .i64 0, .int .i64 0, sv [84], .slice none 0 0, .slice none 0 0] W.heap.size 1 rfl rfl (by simp) rfl).ext (((Ext.refl _).alloc _ _).alloc _ _))
      have HL0 := Lib.hid (show RdG W1 (.slice (some ⟨W.heap.size + 1, 0, none⟩) 1 1) ax2 by rw [hW]; exact (rd_litG (W.alloc (.cells #[.int .i64 1, .int .i64 0, .int .i64 0, .int .i64 0, sv [84], .slice none 0 0, .slice none 0 0] 45)) ax2 #[.int .i64 1, .int .i64 0, .int .i64 0, .int .i64 0, .int .i64 3, .int .i64 1, sv []] 64 _ 1 (by simp) rfl (by simp [ax2]) rfl).ext ((Ext.refl _).alloc _ _))
      have HB0 := Lib.hid (show Bxn (W.heap.size + 1 + 1) [.slice (some ⟨W.heap.size, 0, none⟩) 1 1, .slice (some ⟨W.heap.size + 1, 0, none⟩) 1 1] W1 by
        have h := Bxn.new ((W.alloc (.cells #[.int .i64 1, .int .i64 0, .int .i64 0, .int .i64 0, sv [84], .slice none 0 0, .slice none 0 0] 45)).alloc (.cells #[.int .i64 1, .int .i64 0, .int .i64 0, .int .i64 0, .int .i64 3, .int .i64 1, sv []] 64)) #[.slice (some ⟨W.heap.size, 0, none⟩) 1 1, .slice (some ⟨W.heap.size + 1, 0, none⟩) 1 1] 26
        rw [alsz, alsz] at h
        rw [hW]; exact h)
      have hW' := Lib.hid hW
      clear hW
      go_wp2_with fail
      rw [← hW'.out]
      go_loopw [10, 11, 12] (FqR W i k) (fun _ _ i _ => k - (intOf i).toNat)
      case atStart =>
        refine ⟨0, _, _, Nat.zero_le _, rfl, by simp, rfl, HO0.out, rfl, fun p hp => by simp only [List.mem_singleton] at hp; subst hp; rfl, fun g hg => ?_, HB0.out, HL0.out⟩
        injection hg with hg; subst hg
        simp; omega
      case round =>
        obtain ⟨j, vn, ps, hj, rfl, rfl, rfl, hO, hmp, hh, hne, hB, hl⟩ := hrel
        have hpl : ps.length = j + 1 := by have e := congrArg List.length hmp; simpa [fq] using e
        obtain ⟨va, vc, rfl, v1, v2⟩ := hO.rd.shape
        have b0 := (hB.2 0 _ rfl).1
        have b0f := (hB.2 0 _ rfl).2
        have b1 := (hB.2 1 _ rfl).1
        have sB := hB.1
        by_cases hlt : j < k
        · obtain ⟨s2, hs2⟩ : ∃ s2, s2 = i ^ (j + 1 + 1) := ⟨_, rfl⟩
          have hsb : s2 ≤ 59049 := by rw [hs2]; exact f_pow i _ hm9 (by omega)
          have hmul := f_mul i j s2 hs2
          have hs1 : i ^ (j + 1) ≤ 59049 := f_pow i _ hm9 (by omega)
          obtain ⟨s1, hs1e⟩ : ∃ s1, s1 = i ^ (j + 1) := ⟨_, rfl⟩
          rw [← hs1e] at hmul hs1 ⊢
          have hw64 : wrap64 ((s1 : Int) * (i : Int)) = (s2 : Int) := by rw [hmul]; exact (f_wrap s2 hsb).2
          have hwi := (f_wrap s2 hsb).1
          have hfs : fullB i (j + 1) = (fullB i j || decide (4096 < s2)) := by rw [hs2]; rfl
          have HO := Lib.hid hO
          have HB := Lib.hid hB
          have HMP := Lib.hid hmp
          have HH := Lib.hid hh
          have HNE := Lib.hid hne
          have HLX := Lib.hid hl
          have HPL := Lib.hid hpl
          have HS2 := Lib.hid hs2
          obtain ⟨pn, hpn⟩ : ∃ pn, pn = ps.length := ⟨_, rfl⟩
          rw [← hpn] at HO HB HNE v1 b0
          clear hO hB hmp hh hne hl hpl hs2 hs1e hpn
          obtain ⟨b, hb⟩ : ∃ b, b = fullB i j := ⟨_, rfl⟩
          rw [← hb] at hfs ⊢
          clear hb
          rcases f_three b s2 with rfl | ⟨rfl, h⟩ | ⟨rfl, h⟩
          all_goals
            first
              | (have hi3 := f_lt s2 h)
              | (have hi3 := f_nlt s2 h)
              | skip
            have HFS := Lib.hid hfs
            clear hfs
            go_wp2_with (at_builtin; refine appGL tNd rfl _ _ rfl W _ ps rfl (HO.out.ext ((Ext.refl wr).alloc #[.int .i64 4, .int .i64 j, .int .i64 0, .int .i64 0, sv [], .slice none 0 0, .slice none 0 0] 45)) _ [⟨⟨none, 0, 0, none, 0, 0⟩, fnd j⟩] rfl (rd_litG wr ([⟨⟨none, 0, 0, none, 0, 0⟩, fnd j⟩] : List NdP) #[.int .i64 4, .int .i64 j, .int .i64 0, .int .i64 0, sv [], .slice none 0 0, .slice none 0 0] 45 _ 1 rfl rfl (by simp) rfl) (by have := HPL.out; simp; omega) ?_; intro v' w' hO' hg' hl'; obtain ⟨va', ln', vcap', rfl⟩ : ∃ va' ln' vcap', v' = .slice va' ln' vcap' := (by obtain ⟨a, b, e, _⟩ := hO'.rd.shape; exact ⟨a, _, b, e⟩); have hBx := (HB.out.ext ((Ext.refl wr).alloc #[.int .i64 4, .int .i64 j, .int .i64 0, .int .i64 0, sv [], .slice none 0 0, .slice none 0 0] 45)).out hg' (fun g hg => (HNE.out g hg).2); have g2 := (hBx.2 0 _ rfl).1; have g2f := (hBx.2 0 _ rfl).2; have gs := hBx.1; have HBx := Lib.hid hBx; clear hBx)
            go_roundw
            case rel =>
              have hne' : ∀ g, (Value.slice va' ln' vcap').ownBlock = some g → g ≠ W.heap.size + 1 ∧ g ≠ W.heap.size + 1 + 1 := fun g hg => by
                rcases hl' with hl' | ⟨g', hg2, hle⟩
                · exact HNE.out g (hl'.symm.trans hg)
                · rw [hg2] at hg; injection hg with hg; subst hg
                  simp at hle; omega
              have hb9 : ∀ g, some (W.heap.size + 1 + 1) = some g → W.heap.size ≤ g := fun g hg => by injection hg with hg; omega
              refine ⟨j + 1, .slice va' ln' vcap', ps ++ [⟨⟨none, 0, 0, none, 0, 0⟩, fnd j⟩], hlt, by go_num, by rw [← HS2.out], by rw [HFS.out]; first | (simp [h]; done) | (simp; done), hO'.other (set_grw w' (W.heap.size + 1 + 1) 0 (.slice va' ln' vcap')) hb9 (.inr fun e => (hne' _ e).2 rfl), ?_, ?_, hne', HBx.out.set 0 _, ?_⟩
              · rw [List.map_append, HMP.out, fq_succ]; rfl
              · intro p hp
                rcases List.mem_append.1 hp with hp | hp
                · exact HH.out p hp
                · simp only [List.mem_singleton] at hp; subst hp; rfl
              · refine ((HLX.out.ext ((Ext.refl wr).alloc #[.int .i64 4, .int .i64 j, .int .i64 0, .int .i64 0, sv [], .slice none 0 0, .slice none 0 0] 45)).out (grw_by hg') (fun g hg _ e => ?_)).out (set_grw w' _ _ _) (fun g hg _ e => ?_)
                · injection hg with hg; subst hg; exact (HNE.out _ e.symm).1 rfl
                · injection hg with hg; subst hg; injection e with e; simp at e
            case measure => simp [intOf]; omega
        · obtain rfl : j = k := by omega
          have hnil := fq_nil j
          have hEG := hEw.out.trans hO.2
          have HRN := Lib.hid (show RdN wr (.slice va ps.length vc) (fq j) from ⟨ps, hO.rd, fun q hq => (by
            have e1 := hh q hq
            have e2 := hnil q.n (by rw [← hmp]; exact List.mem_map_of_mem hq)
            unfold RdNd
            rw [e1, e2.1, e2.2]; exact ⟨rdG_nil _, rdG_nil _⟩), hmp⟩)
          have HLX := Lib.hid hl
          obtain ⟨WT, hWT⟩ : ∃ WT, WT = (wr.alloc (.cells #[.int .i64 0] 3)).alloc (.cells #[sv [84], .slice (some ⟨wr.heap.size, 0, none⟩) 1 1, .slice xa xs.length xc] 73) := ⟨_, rfl⟩
          have hET : Ext wr WT := by rw [hWT]; exact ((Ext.refl wr).alloc _ _).alloc _ _
          have hdb : RdB9 UU WT (.slice (some ⟨wr.heap.size + 1, 0, none⟩) 1 1) (fdb i) := by
            refine ⟨[⟨⟨some ⟨wr.heap.size, 0, none⟩, 1, 1, xa, xs.length, xc⟩, ⟨⟨[84], [0]⟩, List.replicate i frow⟩⟩], ?_, fun q hq => ?_, rfl⟩
            · rw [hWT]; exact rd_litG (wr.alloc (.cells #[.int .i64 0] 3)) ([⟨⟨some ⟨wr.heap.size, 0, none⟩, 1, 1, xa, xs.length, xc⟩, ⟨⟨[84], [0]⟩, List.replicate i frow⟩⟩] : List TbP) #[sv [84], .slice (some ⟨wr.heap.size, 0, none⟩) 1 1, .slice xa xs.length xc] 73 _ 1 (by simp) rfl (by simp) rfl
            · simp only [List.mem_cons, List.not_mem_nil, or_false] at hq; subst hq
              refine ⟨⟨?_, in_UU _⟩, rdR_ok.ext HXR.out (hO.2.trans hET)⟩
              rw [hWT]; exact (rd_litG wr ([0] : List Int) #[.int .i64 0] 3 _ 1 rfl rfl (by simp) rfl).ext ((Ext.refl _).alloc _ _)
          have hev := evQ_prg UU 10 [1] ax2 (fq j) (fdb i) _ _ _ WT (HRN.out.ext hET) (HLX.out.ext hET) hdb (up_UU _) (hG.ext (hEG.trans hET)) ax2_good (by omega) (by simp) (fun tb ht => by
            simp only [fdb, List.mem_cons, List.not_mem_nil, or_false] at ht; subst ht; exact frow_ok i) (fun n hn => by rw [(hnil n hn).1, (hnil n hn).2]; simp) (by simp [fdb])
          have HAW := Lib.hid (fun w' (hE : Ext WT w') => awake_law w' (hG.ext (hEG.trans (hET.trans hE))))
          have HWT := Lib.hid hWT
          have HEG := Lib.hid (hEG.trans hET)
          obtain ⟨e1, e2⟩ := f_ev i j hk4 hm9
          obtain ⟨pn, hpn⟩ : ∃ pn, pn = ps.length := ⟨_, rfl⟩
          rw [← hpn] at hev b0
          clear hO hmp hh hne hB hl hnil hEG hET hdb hWT hpn hpl v1 v2
          cases hf : fullB i j with
          | true =>
            have HE := Lib.hid (hev.mono (R' := fun e w' => ∃ ad cp, e = .returned (.tuple #[.slice ad 0 cp, .int .i64 12]) ∧ Ext WT w') fun _ _ h => ev_full h (e1 hf))
            clear hev e1 e2 hf
            go_wp2_with fail
            rw [← HWT.out]
            refine HE.out.mono ?_; rintro e w5 ⟨a5, c5, rfl, hE5⟩
            have HE5 := Lib.hid hE5
            clear hE5
            go_wp2_with fail
            refine (HAW.out _ HE5.out).mono ?_; rintro e w6 ⟨rfl, hE6⟩
            go_wp2_with fail
            go_ret
            exact ⟨rfl, HEG.out.trans (HE5.out.trans hE6)⟩
          | false =>
            obtain ⟨L, hL1, hL2⟩ := e2 hf
            have hL3 : (sortR L).length = i ^ (j + 1) := by rw [sortR_len, hL2]
            have HE := Lib.hid (hev.mono (R' := fun e w' => ∃ ad cp, e = .returned (.tuple #[.slice ad (i ^ (j + 1)) cp, .int .i64 0]) ∧ Ext WT w') fun _ _ h => by have h := ev_rows h hL1; rw [hL3] at h; exact h)
            obtain ⟨sz, hsz⟩ : ∃ sz, sz = i ^ (j + 1) := ⟨_, rfl⟩
            rw [← hsz] at HE ⊢
            clear hev e1 e2 hf hL1 hL2 hL3 hsz
            go_wp2_with fail
            rw [← HWT.out]
            refine HE.out.mono ?_; rintro e w5 ⟨a5, c5, rfl, hE5⟩
            have HE5 := Lib.hid hE5
            clear hE5
            go_wp2_with fail
            refine (HAW.out _ HE5.out).mono ?_; rintro e w6 ⟨rfl, hE6⟩
            go_wp2_with fail
            go_ret
            exact ⟨rfl, HEG.out.trans (HE5.out.trans hE6)⟩
end Go.Proofs.YtbplapkcleipiaaGreatDoor
