/- The law ExprLocal. -/
import Derived.Test.YtdamlnfjhpmpmaaLx0
namespace Go.Proofs.Ytdamlnfjhpmpmaa
open Go.ChangeShapes Go.WideShapes Go.ChangeAt Go.RowKit

theorem OwnG.adr {α : Type} [Enc α] {e : TypeId} {W w : World} {ad : Option Addr} {n cap : Nat} {l : List α} (h : OwnG e W w (.slice ad n cap) l) (hl : 0 < l.length) : ∃ g, ad = some ⟨g, 0, none⟩ ∧ W.heap.size ≤ g ∧ g < w.heap.size ∧ n = l.length := by
  rcases h.1.2 with ⟨h', h0⟩ | ⟨g, cap', cur, h', hb, hg, _⟩
  · omega
  · simp only [Value.slice.injEq] at h'
    obtain ⟨rfl, hn, -⟩ := h'
    exact ⟨g, rfl, hb, (Array.getElem?_eq_some_iff.1 hg).1, hn⟩
theorem OwnG.fz {α : Type} [Enc α] {e : TypeId} {W w : World} {g n cap : Nat} {l : List α} (h : OwnG e W w (.slice (some ⟨g, 0, none⟩) n cap) l) (hn : n = l.length) (j : Nat) : w.frozen? ⟨g, j, none⟩ = false := by subst hn; exact h.1.frozenAt j
theorem OwnG.put3 {e : TypeId} {W w : World} {g n cap : Nat} {l : List V} (h : OwnG e W w (.slice (some ⟨g, 0, none⟩) n cap) l) (hn : n = l.length) (hb : W.heap.size ≤ g) (i : Nat) (p q : Int) (t : List UInt8) (hi : i < l.length) :
    OwnG e W (((w.setCell ⟨g, i * 3, none⟩ (.int .i64 p)).setCell ⟨g, i * 3 + 1, none⟩ (.int .i64 q)).setCell ⟨g, i * 3 + 2, none⟩ (sv t)) (.slice (some ⟨g, 0, none⟩) n cap) (l.set i ⟨p, q, t⟩) := by
  subst hn
  obtain ⟨h1, h2⟩ := putAll_owns (Enc.cells (⟨p, q, t⟩ : V)) w (i * Enc.sz V) (cellsG l) h.1
  rw [cellsG_set l i ⟨p, q, t⟩ hi] at h1
  refine ⟨?_, ext_grownBy h.2 h2 (fun k hk => by injection hk with hk; subst hk; exact hb)⟩
  rw [List.length_set]; exact h1
theorem OwnG.c3 {e : TypeId} {W w : World} {g n cap : Nat} {l : List V} (h : OwnG e W w (.slice (some ⟨g, 0, none⟩) n cap) l) (i : Nat) (hi : i < l.length) : w.cell? ⟨g, i * 3, none⟩ = some (.int .i64 l[i].k) ∧ w.cell? ⟨g, i * 3 + 1, none⟩ = some (.int .i64 l[i].n) ∧ w.cell? ⟨g, i * 3 + 2, none⟩ = some (sv l[i].s) := by
  obtain ⟨g', o, e', c0, c1, c2⟩ := rd_V h.rd i hi
  injection e' with e'
  injection e' with e1 e2
  subst e1 e2
  rw [Nat.zero_add] at c0 c1 c2
  exact ⟨c0, c1, c2⟩
def chg (row other : List V) (cs : List Int) (k : Nat) : List V := (List.range row.length).map fun j => if j < k ∧ ¬ (j : Int) ∈ cs ∧ j < other.length then other.getD j nul else row.getD j nul
theorem chg_len (row other : List V) (cs : List Int) (k : Nat) : (chg row other cs k).length = row.length := by simp [chg]
theorem chg_at (row other : List V) (cs : List Int) (k j : Nat) (hj : j < row.length) : (chg row other cs k).getD j nul = if j < k ∧ ¬ (j : Int) ∈ cs ∧ j < other.length then other.getD j nul else row.getD j nul := by
  rw [getD_at _ _ _ (by rw [chg_len]; exact hj)]; simp [chg]
theorem chg_zero (row other : List V) (cs : List Int) : chg row other cs 0 = row := by
  refine list_getD_ext _ _ nul (chg_len _ _ _ _) fun j hj => ?_
  rw [chg_len] at hj
  rw [chg_at _ _ _ _ _ hj, if_neg (by omega)]
theorem chg_same (row other : List V) (cs : List Int) (k : Nat) (h : (k : Int) ∈ cs ∨ other.length ≤ k) : chg row other cs (k + 1) = chg row other cs k := by
  refine list_getD_ext _ _ nul (by rw [chg_len, chg_len]) fun j hj => ?_
  rw [chg_len] at hj
  rw [chg_at _ _ _ _ _ hj, chg_at _ _ _ _ _ hj]
  by_cases hjk : j = k
  · subst hjk
    rw [if_neg (by rintro ⟨_, b, c⟩; rcases h with h | h; exact b h; omega), if_neg (by omega)]
  · by_cases h1 : j < k
    · simp [h1, Nat.lt_succ_of_lt h1]
    · rw [if_neg (by omega), if_neg (by omega)]
theorem chg_step (row other : List V) (cs : List Int) (k : Nat) (hk : k < row.length) (h1 : ¬ (k : Int) ∈ cs) (h2 : k < other.length) : chg row other cs (k + 1) = (chg row other cs k).set k (other.getD k nul) := by
  refine list_getD_ext _ _ nul (by rw [List.length_set, chg_len, chg_len]) fun j hj => ?_
  rw [chg_len] at hj
  rw [getD_set _ _ _ _ _ (by rw [chg_len]; exact hk), chg_at _ _ _ _ _ hj, chg_at _ _ _ _ _ hj]
  by_cases hjk : k = j
  · subst hjk
    rw [if_pos ⟨by omega, h1, h2⟩, if_pos rfl]
  · rw [if_neg hjk]
    by_cases h3 : j < k
    · simp [h3, Nat.lt_succ_of_lt h3]
    · rw [if_neg (by omega), if_neg (by omega)]
theorem chg_ok (row other : List V) (cs : List Int) (k : Nat) (h : OkR row) (h' : OkR other) : OkR (chg row other cs k) := by
  intro v hv
  unfold chg at hv
  obtain ⟨j, _, rfl⟩ := List.mem_map.1 hv
  split
  · exact okR_at h' j
  · exact okR_at h j
theorem chg_col (row other : List V) (cs : List Int) (k : Nat) (c : Int) (hc : c ∈ cs) : colV (chg row other cs k) c = colV row c := by
  unfold colV atV
  rw [chg_len]
  split
  · rename_i h
    have := (isIx_iff _ _).1 h
    rw [chg_at _ _ _ _ _ (by omega), if_neg (by rintro ⟨_, b, _⟩; exact b (by rw [show ((c.toNat : Nat) : Int) = c by omega]; exact hc))]
  · rfl
theorem evl_local (l : List X) (root : Int) (row row' : List V) (h : ∀ c, isIx root l.length = true ∧ Uses l root.toNat c → colV row c = colV row' c) : evlV l root row = evlV l root row' := by
  unfold evlV
  cases hb : isIx root l.length with
  | false => rfl
  | true =>
    have hx := (isIx_iff _ _).1 hb
    rw [if_neg (by decide), if_neg (by decide)]
    exact evs_local l root.toNat (by omega) row row' (fun c hc => h c ⟨hb, hc⟩) (root.toNat + 1) root.toNat (by omega) (Nat.le_refl _) (rea_root l root.toNat)
def kpB (cs : List Int) (k : Nat) (m : Nat) : Bool := decide ((k : Int) ∈ cs.take m)
theorem kp_succ (cs : List Int) (k m : Nat) (hm : m < cs.length) : kpB cs k (m + 1) = (kpB cs k m || (cs[m] == (k : Int))) := by
  unfold kpB
  rw [List.take_add_one, List.getElem?_eq_getElem hm]
  apply Bool.eq_iff_iff.2
  simp only [decide_eq_true_eq, List.mem_append, Option.toList, List.mem_singleton, Bool.or_eq_true, beq_iff_eq]
  exact or_congr Iff.rfl eq_comm
theorem kp_all (cs : List Int) (k : Nat) : kpB cs k cs.length = decide ((k : Int) ∈ cs) := by unfold kpB; rw [List.take_length]
def LoR (W : World) (row other : List V) (cs : List Int) (vC : Value) (i : Value) (wr : World) : Prop := ∃ k : Nat, k ≤ row.length ∧ i = .int .i64 k ∧ OwnG tV.e W wr vC (chg row other cs k)
theorem few_yes {n k : Int} (h : fewB n k = true) : n ≤ 220 ∧ k ≤ 60 := by simpa [fewB] using h
set_option maxHeartbeats 4000000 in
set_option maxRecDepth 100000 in
theorem local_few (l : List X) (root : Int) (row other : List V) (vl vr vo : Value) (w : World) (rl : RdG w vl l) (rr : RdG w vr row) (ro : RdG w vo other) (h : fewB l.length row.length = false ∨ (fewB l.length row.length = true ∧ 60 < (other.length : Int))) :
    Calls Try.prog 7 #[vl, .int .i64 root, vr, vo] w fun e w' => e = .returned (.bool true) ∧ Ext w w' := by
  have hF := few_law l vl row.length w rl
  obtain ⟨al, cl, rfl, _, _⟩ := rl.shape
  obtain ⟨ar, cr, rfl, _, _⟩ := rr.shape
  obtain ⟨ao, co, rfl, _, _⟩ := ro.shape
  have HF := Lib.hid hF
  clear hF rl rr ro
  rcases h with h | ⟨h, h6⟩
  all_goals
    rw [h] at HF
    clear h
    go_enter Try.func7, Try.ntmps7
    go_wp2_with fail
    refine HF.out.mono ?_; rintro e w1 ⟨rfl, rfl⟩
    go_wp2_with fail
    refine (awake_law _).mono ?_; rintro e w1 ⟨rfl, hE⟩
    go_wp2_with fail
    go_ret
    exact ⟨rfl, hE⟩
set_option maxHeartbeats 8000000 in
set_option maxRecDepth 100000 in
theorem local_main (l : List X) (root : Int) (row other : List V) (vl vr vo : Value) (w : World) (rl : RdG w vl l) (rr : RdG w vr row) (ro : RdG w vo other) (ox : OkX l) (okr : OkR row) (oo : OkR other)
    (h : fewB l.length row.length = true) (h6 : (other.length : Int) ≤ 60) :
    Calls Try.prog 7 #[vl, .int .i64 root, vr, vo] w fun e w' => e = .returned (.bool true) ∧ Ext w w' := by
  have hF := few_law l vl row.length w rl
  rw [h] at hF
  obtain ⟨hl1, hr1⟩ := few_yes h
  have hC := col_prg l root vl w rl (by omega)
  have hEv := fun r v w' a b c => eval_prg l root r vl v w' a b (by omega) ox c
  obtain ⟨al, cl, rfl, _, _⟩ := rl.shape
  obtain ⟨ar, cr, rfl, _, _⟩ := rr.shape
  obtain ⟨ao, co, rfl, _, _⟩ := ro.shape
  have HF := Lib.hid hF
  have HC := Lib.hid hC
  have HEv := Lib.hid hEv
  have RL := Lib.hid rl
  have RR := Lib.hid rr
  have RO := Lib.hid ro
  have OR := Lib.hid okr
  have OO := Lib.hid oo
  obtain ⟨n, hn⟩ : ∃ n, n = row.length := ⟨_, rfl⟩
  obtain ⟨m, hm⟩ : ∃ m, m = other.length := ⟨_, rfl⟩
  have HN := Lib.hid hn
  have HM := Lib.hid hm
  rw [← hn] at RR HF hr1 ⊢
  rw [← hm] at RO h6 ⊢
  have h6' : ¬ (60 : Int) < (m : Int) := by omega
  clear hF hC hEv rl rr ro okr oo h hn hm ox
  go_enter Try.func7, Try.ntmps7
  go_wp2_with fail
  refine HF.out.mono ?_; rintro e w1 ⟨rfl, rfl⟩
  go_wp2_with fail
  refine HC.out.mono ?_; rintro e w1 ⟨vU, cs, rfl, rU, hE1, -, hcs⟩
  have HCS := Lib.hid hcs
  have RL1 := Lib.hid (RL.out.ext hE1)
  have RR1 := Lib.hid (RR.out.ext hE1)
  have RO1 := Lib.hid (RO.out.ext hE1)
  have HE1 := Lib.hid hE1
  obtain ⟨aU, cU, rfl, hu1, hu2⟩ := rU.shape
  have RU := Lib.hid rU
  unfold maxLen at hu2
  clear hcs hE1 rU
  obtain ⟨q, hq⟩ : ∃ q, q = cs.length := ⟨_, rfl⟩
  have HQ := Lib.hid hq
  rw [← hq] at RU hu1 ⊢
  clear hq
  go_wp2_with (at_builtin; refine appG tV rfl _ _ rfl w1 _ [] rfl (OwnG.nil _ _ _ (Ext.refl _)) _ row rfl RR1.out (by have := HN.out; simp; omega) ?_; intro v' w2 hO' hg'; rw [List.nil_append] at hO'; obtain ⟨aC, cC, rfl, hc1, hc2⟩ := hO'.rd.shape; rw [← HN.out] at hc1 hO' ⊢)
  unfold maxLen at hc2
  clear hg'
  go_loopw [33] (LoR w1 row other cs (.slice aC n cC)) (fun i _ => n - (intOf i).toNat)
  case atStart => exact ⟨0, by omega, rfl, by rw [chg_zero]; exact hO'⟩
  case round =>
    clear hO'
    obtain ⟨wA, rfl⟩ : ∃ x, x = wr := ⟨_, rfl⟩
    obtain ⟨k, hk, rfl, hO⟩ := hrel
    rw [← HN.out] at hk
    by_cases hlt : k < n
    · have hi0 : (0 : Int) ≤ (k : Int) := by omega
      have hi1 : (k : Int) < (n : Int) := by omega
      have hd1 : decide ((k : Int) < (n : Int)) = true := by simpa using hlt
      go_wp2_with fail
      go_loopw [12, 38] (fun kp j wr => wr = wA ∧ ∃ t : Nat, t ≤ q ∧ j = .int .i64 t ∧ kp = .bool (kpB cs k t)) (fun _ j _ => q - (intOf j).toNat)
      case atStart => exact ⟨rfl, 0, by omega, rfl, by simp [kpB]⟩
      case round =>
        obtain ⟨rfl, t, ht, rfl, rfl⟩ := hrel
        by_cases htq : t < q
        · have hj0 : (0 : Int) ≤ (t : Int) := by omega
          have hj1 : (t : Int) < (q : Int) := by omega
          have htl : t < cs.length := by rw [← HQ.out]; exact htq
          obtain ⟨g, o, rfl, cc⟩ := rd_I RU.out t htl
          have CC := hO.2.keeps cc
          have hsu := kp_succ cs k t htl
          generalize cs[t] = c at *
          clear cc
          cases hkb : kpB cs k t with
          | true =>
            rw [hkb, Bool.true_or] at hsu
            have HS := Lib.hid hsu
            clear hsu hkb
            go_wp2_with fail
            go_roundw
            case rel => exact ⟨by first | rfl | trivial, t + 1, by omega, by go_num, by rw [HS.out]⟩
            case measure => simp [intOf]; omega
          | false =>
            rw [hkb, Bool.false_or] at hsu
            by_cases hck : c = (k : Int)
            · subst hck
              have HS := Lib.hid (show kpB cs k (t + 1) = true from hsu.trans (by simp))
              clear hsu hkb
              go_wp2_with fail
              go_roundw
              case rel => exact ⟨by first | rfl | trivial, t + 1, by omega, by go_num, by rw [HS.out]⟩
              case measure => simp [intOf]; omega
            · have hck' : (c == (k : Int)) = false := by simpa using hck
              rw [hck'] at hsu
              have HS := Lib.hid hsu
              clear hsu hkb
              go_wp2_with fail
              go_roundw
              case rel => exact ⟨by first | rfl | trivial, t + 1, by omega, by go_num, by rw [HS.out]⟩
              case measure => simp [intOf]; omega
        · have hte : t = q := by omega
          subst hte
          have hka : kpB cs k t = decide ((k : Int) ∈ cs) := by rw [HQ.out]; exact kp_all cs k
          have hend : decide ((t : Int) < (t : Int)) = false := by simp
          have hkr : k < row.length := by rw [← HN.out]; exact hlt
          by_cases hin : (k : Int) ∈ cs
          · rw [decide_eq_true hin] at hka
            rw [hka]
            have HS := Lib.hid (chg_same row other cs k (.inl hin))
            clear hka hin
            go_wp2_with fail
            go_roundw
            case rel => exact ⟨k + 1, by omega, by go_num, by rw [HS.out]; exact hO⟩
            case measure => simp [intOf]; omega
          · rw [decide_eq_false hin] at hka
            rw [hka]
            by_cases hko : k < m
            · have hi2 : (k : Int) < (m : Int) := by omega
              have hkm : k < other.length := by rw [← HM.out]; exact hko
              have hs := chg_step row other cs k hkr hin hkm
              rw [getD_at other nul k hkm] at hs
              obtain ⟨g, o, rfl, c0, c1, c2⟩ := rd_V RO1.out k hkm
              have C0 := hO.2.keeps c0
              have C1 := hO.2.keeps c1
              have C2 := hO.2.keeps c2
              have hgl : g < w1.heap.size := World.block_lt_of_cell? _ _ c0
              obtain ⟨gC, rfl, hg1, hg2, hg3⟩ := hO.adr (by rw [chg_len]; omega)
              obtain ⟨z0, z1, z2⟩ := hO.c3 k (by rw [chg_len]; exact hkr)
              have y0 := hO.fz hg3 (k * 3)
              have y1 := hO.fz hg3 (k * 3 + 1)
              have y2 := hO.fz hg3 (k * 3 + 2)
              generalize other[k] = x at *
              obtain ⟨xk, xn, xs⟩ := x
              simp only at C0 C1 C2
              have hO3 := hO.put3 hg3 hg1 k xk xn xs (by rw [chg_len]; exact hkr)
              rw [← hs] at hO3
              have HO3 := Lib.hid hO3
              clear hs hO3 c0 c1 c2 hka hin hO
              go_wp2_with fail
              go_roundw
              case rel => exact ⟨k + 1, by omega, by go_num, HO3.out⟩
              case measure => simp [intOf]; omega
            · have hi2 : decide ((k : Int) < (m : Int)) = false := by simpa using hko
              have HS := Lib.hid (chg_same row other cs k (.inr (by rw [← HM.out]; omega)))
              clear hka hin
              go_wp2_with fail
              go_roundw
              case rel => exact ⟨k + 1, by omega, by go_num, by rw [HS.out]; exact hO⟩
              case measure => simp [intOf]; omega
    · have hke : k = n := by omega
      subst hke
      have hend : decide ((k : Int) < (k : Int)) = false := by simp
      have hev : evlV l root (chg row other cs k) = evlV l root row := evl_local l root _ _ fun c hc => chg_col row other cs k c ((HCS.out c).2 hc)
      have e1 := HEv.out (chg row other cs k)
      have e2 := HEv.out row
      rw [hev] at e1
      generalize evlV l root row = pq at *
      obtain ⟨p, qq, t⟩ := pq
      have HO := Lib.hid hO
      have E1 := Lib.hid e1
      have E2 := Lib.hid e2
      clear hO e1 e2 hev HEv
      go_wp2_with fail
      refine (awake_law _).mono ?_; rintro e w3 ⟨rfl, hE3⟩
      have HE3 := Lib.hid hE3
      clear hE3
      go_wp2_with fail
      refine (E1.out _ _ (RL1.out.ext (HO.out.2.trans HE3.out)) ((HO.out.ext HE3.out).rd) (chg_ok _ _ _ _ OR.out OO.out)).mono ?_; rintro e w4 ⟨rfl, hE4⟩
      have HE4 := Lib.hid (HE3.out.trans hE4)
      clear hE4
      go_wp2_with fail
      refine (E2.out _ _ (RL1.out.ext (HO.out.2.trans HE4.out)) (RR1.out.ext (HO.out.2.trans HE4.out)) OR.out).mono ?_; rintro e w5 ⟨rfl, hE5⟩
      go_wp2_with fail
      go_ret
      exact ⟨by simp, HE1.out.trans (HO.out.2.trans (HE4.out.trans hE5))⟩
theorem law_ExprLocal (l : List X) (root : Int) (row other : List V) (vl vr vo : Value) (w : World) (rl : RdG w vl l) (rr : RdG w vr row) (ro : RdG w vo other) (ox : OkX l) (okr : OkR row) (oo : OkR other) :
    Calls Try.prog 7 #[vl, .int .i64 root, vr, vo] w fun e w' => e = .returned (.bool true) ∧ Ext w w' := by
  cases h : fewB l.length row.length with
  | false => exact local_few l root row other vl vr vo w rl rr ro (.inl h)
  | true =>
    by_cases h6 : 60 < (other.length : Int)
    · exact local_few l root row other vl vr vo w rl rr ro (.inr ⟨h, h6⟩)
    · exact local_main l root row other vl vr vo w rl rr ro ox okr oo h (by omega)
end Go.Proofs.Ytdamlnfjhpmpmaa
